import PyProof.Rows.All
import Wide.All
import OpenK.AllK
import Wide.FinOn
import HandS.Base
import HandS.Call
import HandS.List
import HandS.Ends
import HandS.Wide
import HandS.Iter
import HandS.Conv
import HandS.ForMost
import HandS.ForExc
import HandS.SortInts
import HandS.SortKw
import HandS.SetFor
import HandS.Style
import HandS.Codes
import HandS.Strs
import HandS.Walk
import HandS.IsInst
import HandS.NoneIn
import HandS.Deep
import HandS.More
import HandS.GenBody
import HandS.GenYield
import HandS.GenCall
import HandS.GenList
import KE.KDictZip
import HandS.Exc
import HandS.ExcOwn
import HandS.ExcInit
import HandS.ExcField
import HandS.ExcIs
import HandS.WordsExc
import HandS.ExcCtx
import HandS.HotCalls
import HandS.ExcInitHot
import KE.KExcIs
import HandS.Property
import PySem.Challenge.RW_sortstretches_k05_errors_of_rows
set_option maxHeartbeats 20000000
set_option Elab.async false
set_option linter.all false
set_option maxRecDepth 100000
namespace Xk
open PySem PySem.Spec PyProof.Rows L2

/-- a def's promise where no list is being written out around the call -/
structure FnG (P : Program) (w : World) (K : PySem.W.Frag) (mg : Str → Option Value) (B : Heap) (CX : CXT) (n : Nat) (g : Addr) (fd : FuncData) (ps : List Str) (sp : Sp) : Prop where
  cnt : ∀ vs H Q E, sp vs H Q E → vs.length = ps.length
  go : ∀ (A : Around) (ou : List Env) (t : Shared) (H : Hp) (ar : Args) (us : List Value) (vs : List V) (Q : VK) (E : XK),
    A.guards = some [] → Room n A → Env0 P w K mg B A ou t H → BindsTo t fd ar (ps.zip us) → Vals vs us → sp vs H Q E →
      codeAny (model P w) A (.call (.ref g) ar) (CR CX ou P w H t Q E) t

theorem FnG.of {P : Program} {w : World} {K : PySem.W.Frag} {mg : Str → Option Value} {B : Heap} {CX : CXT} {n : Nat} {g : Addr} {fd : FuncData} {ps : List Str} {sp : Sp}
    (F : FnOk P w K mg B CX n g fd ps sp) : FnG P w K mg B CX n g fd ps sp :=
  ⟨F.len, fun A ou t H ar us vs Q E _ room env bi rv hs => F.run A ou t H ar us vs Q E room env bi rv hs⟩

section
variable {X : Cx} {CX : CXT} {n : Nat} {g : Addr} {fd : FuncData} {ps ks : List Str} {sp : Sp} {dvs : List V} {ds : List Value} {E : XK} {x : Str} {p pos : Pos} {e : Expr} {es : List Expr} {kws : List Keyword} {t tk : TA}

theorem endG {pins : List (Addr × Obj)} {σ : L2.St} {H : Hp} {s s' : Shared} {Q : VK} {r : Result} (pas : Passes CX X E) (I : Inv X pins σ H s)
    (z : CR CX X.stack X.prog X.w H s Q E r s') :
    (match r with | .ok (.ret u) => EP X pins σ Q u s' | .ok _ => False | .error er => X.xe er s') := by
  match r, z with
  | .error er, z => exact pas pins σ H s er s' I z
  | .ok (.ret u), z => exact I.after z
  | .ok .next, z => exact z.elim
  | .ok .brk, z => exact z.elim
  | .ok .cont, z => exact z.elim

theorem goG {pins : List (Addr × Obj)} {σ : L2.St} {H : Hp} {s : Shared} {Q : VK} {us : List Value} {vs : List V} (F : FnG X.prog X.w X.K X.mg X.base CX n g fd ps sp)
    (hG : X.A.guards = some []) (room : Room n X.A) (bi : Binds X.K fd ps ds) (dv : Vals dvs ds) (pas : Passes CX X E) (I : Inv X pins σ H s) (rv : Vals vs us) (z : sp (vs ++ dvs) H Q E) :
    wpAny (model X.prog X.w) X.A (PySem.call (.ref g) us) (EP X pins σ Q) X.xe s := by
  have rv2 := rv.append dv
  have hlen : (us ++ ds).length = ps.length := rv2.length ▸ F.cnt _ _ _ _ z
  exact wpAny_call (codeAny_mono (F.go X.A X.stack s H ⟨us, []⟩ _ _ Q E hG room I.env0 (bi s us I.kIn hlen) rv2 z) fun r s' y => by
    have := endG pas I y
    revert this
    cases r with
    | error _ => exact id
    | ok fl => cases fl <;> exact id)

theorem pe_callG (F : FnG X.prog X.w X.K X.mg X.base CX n g fd ps sp) (hG : X.A.guards = some []) (room : Room n X.A) (gx : Gl X x) (at' : X.mg x = some (.ref g)) (kp : PySem.W.keepIn X.K (.ref g) = true)
    (bi : Binds X.K fd ps ds) (dv : Vals dvs ds) (pas : Passes CX X E) (ha : PA X (e :: es) t) (hdb : (x == ("__debug__" : Str)) = false := by decide)
    (he : starEach (e :: es) X.env = (false, eval e X.env) :: starEach es X.env := by rfl) (hpl : (backTo pos (starEach es X.env)).any (·.1) = false := by rfl) : PE X (.Call (.Name x p) (e :: es) [] pos) (tCall sp dvs E t) :=
  ⟨fun pins s σ H Q I z => wpAny_Call_Name_kw (ld_glob I gx at'
    (PySem.W.callWith_K (h₀ := X.base) I.ok.mod.kin kp (thn (ha.run pos pins s σ H _ I z) fun us s1 ⟨vs, H1, I1, r, q⟩ => ⟨I1.kIn, goG F hG room bi dv pas I1 r q⟩) he hpl) hdb)⟩

variable {ff : List Value → List Value → List Value} {fV : List V → List V → List V}
theorem goGK {pins : List (Addr × Obj)} {σ : L2.St} {H : Hp} {s : Shared} {Q : VK} {us ws : List Value} {vs zs : List V} (F : FnG X.prog X.w X.K X.mg X.base CX n g fd ps sp)
    (hG : X.A.guards = some []) (room : Room n X.A) (bi : KBinds X.K fd ps ks ff fV) (pas : Passes CX X E) (I : Inv X pins σ H s) (rv : Vals vs us) (rw' : Vals zs ws) (z : sp (fV vs zs) H Q E) :
    wpAny (model X.prog X.w) X.A (PySem.call (.ref g) us (ks.zip ws)) (EP X pins σ Q) X.xe s := by
  have rv2 := bi.rel rv rw'
  have hlen : (ff us ws).length = ps.length := rv2.length ▸ F.cnt _ _ _ _ z
  exact wpAny_call (codeAny_mono (F.go X.A X.stack s H ⟨us, ks.zip ws⟩ _ _ Q E hG room I.env0 (bi.to s us ws I.kIn hlen) rv2 z) fun r s' y => by
    have := endG pas I y
    revert this
    cases r with
    | error _ => exact id
    | ok fl => cases fl <;> exact id)

/-- f(e, .., k = v, ..) -/
theorem pe_callKG (F : FnG X.prog X.w X.K X.mg X.base CX n g fd ps sp) (hG : X.A.guards = some []) (room : Room n X.A) (gx : Gl X x) (at' : X.mg x = some (.ref g)) (kp : PySem.W.keepIn X.K (.ref g) = true)
    (bi : KBinds X.K fd ps ks ff fV) (pas : Passes CX X E) (ha : PA X (e :: es) t) (hkw : PK X kws tk) (hdb : (x == ("__debug__" : Str)) = false := by decide)
    (all' : (backToKw pos (keywordEach kws X.env)).all (·.1.isSome) = true := by rfl) (nms : (backToKw pos (keywordEach kws X.env)).filterMap (·.1) = ks := by rfl)
    (he : starEach (e :: es) X.env = (false, eval e X.env) :: starEach es X.env := by rfl)
    (hpl : ((backTo pos (starEach (e :: es) X.env)).any (·.1) || (backToKw pos (keywordEach kws X.env)).any (·.1.isNone)) = false := by rfl) :
    PE X (.Call (.Name x p) (e :: es) kws pos) (tCallK sp fV E t tk) := by
  subst nms
  exact ⟨fun pins s σ H Q I z => wpAny_Call_Name_kw (ld_glob I gx at'
    (PySem.W.callWith_KW (h₀ := X.base) I.ok.mod.kin kp all' (thn (ha.run pos pins s σ H _ I z) fun us s1 ⟨vs, H1, I1, r, q⟩ =>
      thn (hkw.run pos pins s1 σ H1 _ I1 q) fun ws s2 ⟨zs, H2, I2, rz, q2⟩ => ⟨I2.kIn, goGK F hG room bi pas I2 r rz q2⟩) hpl he) hdb)⟩
/-- f(k = v, ..) -/
theorem pe_callKG0 (F : FnG X.prog X.w X.K X.mg X.base CX n g fd ps sp) (hG : X.A.guards = some []) (room : Room n X.A) (gx : Gl X x) (at' : X.mg x = some (.ref g)) (kp : PySem.W.keepIn X.K (.ref g) = true)
    (bi : KBinds X.K fd ps ks ff fV) (pas : Passes CX X E) (hkw : PK X kws tk) (hdb : (x == ("__debug__" : Str)) = false := by decide)
    (all' : (backToKw pos (keywordEach kws X.env)).all (·.1.isSome) = true := by rfl) (nms : (backToKw pos (keywordEach kws X.env)).filterMap (·.1) = ks := by rfl)
    (hpl : ((backTo pos (starEach [] X.env)).any (·.1) || (backToKw pos (keywordEach kws X.env)).any (·.1.isNone)) = false := by rfl) :
    PE X (.Call (.Name x p) [] kws pos) (tCallK sp fV E tNil tk) := by
  subst nms
  exact ⟨fun pins s σ H Q I z => wpAny_Call_Name_kw (ld_glob I gx at'
    (PySem.W.callWith_KW0 (h₀ := X.base) I.ok.mod.kin kp all' (thn (hkw.run pos pins s σ H _ I z) fun ws s2 ⟨zs, H2, I2, rz, q2⟩ => ⟨I2.kIn, goGK F hG room bi pas I2 .nil rz q2⟩) hpl) hdb)⟩
end

/-- a def of the text by its body, the guards known -/
theorem fnG_of {P : Program} {w : World} {K : PySem.W.Frag} {mg : Str → Option Value} {B : Heap} {CX : CXT} {n : Nat} {g : Addr} {nm qual : Str} {pars : Arguments} {bd : List Stmt} {sc : Scope} {dV kV doc pm cdv ct oc : Value} {an od : Option Addr}
    {osl : Array (Option Value)} {N ps : List Str} {sp : Sp} (lk : K.lookup g = some ⟨oc, od, .func (PySem.W.fnOf nm qual pars bd sc dV kV doc pm an cdv ct), osl⟩) (hcd : PySem.W.codeIn K cdv qual = true) (S : FnScope N ps sc)
    (cnt : ∀ vs H Q E, sp vs H Q E → vs.length = ps.length)
    (body : ∀ (A : Around) (ou : List Env) (t : Shared) (H : Hp) (vs : List V) (Q : VK) (E : XK), A.guards = some [] → Room n (A.deeper (envOfC qual sc t.heap.objs.size g cdv)) → sp vs H Q E →
      ∃ r, PSs (cxOf CX P w K mg B N qual sc g cdv A ou t H E) bd r ∧ r { nx := fun _ H' => Q .non H', rt := Q } (L2.start N vs) H) :
    FnG P w K mg B CX (n + 1) g (PySem.W.fnOf nm qual pars bd sc dV kV doc pm an cdv ct) ps sp where
  cnt := cnt
  go A ou t H ar us vs Q E hG room env bi rv z := by
    have kin := env.mod.kin.keeps fun b o e => (env.bs b o e).1
    have lim := env.mod.nolimit.keeps fun b o e => (env.bs b o e).1
    have kinds : ∀ y ∈ ps.zip us, sc.names.lookup y.1 = some .local ∨ (sc.names.lookup y.1 = some .cell ∧ ((cellsFrom (t.heap.objs.size + 1) sc.names []).lookup y.1).isSome = true) := fun y hy =>
      (S.par y.1 (List.of_mem_zip (a := y.1) (b := y.2) hy).1).imp id fun q => ⟨q, PySem.W.cellsFrom_some _ _ _ (.inl q)⟩
    refine codeAny_call_function room.depth (kin _ _ lk) rfl S.co S.gen rfl (PySem.W.codeRec_of kin hcd) (bi _ _ _ _ (wpAny_newFunctionEnv_cells S.kind kinds fun env' he t1 x => ?_))
    subst he
    obtain ⟨r, hr, hq⟩ := body A ou t H vs Q E hG (room.deeper _) z
    refine ⟨lim.keeps x.toInCall.keep, codeAny_func (wpAny_mono (hr.run [] t1 (L2.start N vs) H _ (inv_start S room.hd env (cnt _ _ _ _ z) rv x) hq) (fun fl t' y => ?_) fun e t' y => y)⟩
    match fl, y with
    | .ret u, ⟨v, σ', H', J, ru, q⟩ => exact ⟨v, H', J.os, J.bare, J.base, J.hok, ru, q⟩
    | .next, ⟨σ', H', J, q⟩ => exact ⟨V.non, H', J.os, J.bare, J.base, J.hok, rfl, q⟩
    | .brk, ⟨_, _, _, q⟩ => exact q.elim
    | .cont, ⟨_, _, _, q⟩ => exact q.elim

/-- the law's call at the claim's caller, over an abstract heap that tracks the script at most -/
theorem lawG0 {P : Program} {w : World} {K : PySem.W.Frag} {mg mb : Str → Option Value} {CX : CXT} {n : Nat} {fa a : Addr} {fd : FuncData} {x : Str} {sp : Sp} {t : Shared} {vs : List Value} {H : Hp}
    (kin : K.In t.heap) (hm : t.heap.Ns mainGlobals mg) (hb : t.heap.Ns builtinsNs mb) (hbb : ∀ y : Str, y ≠ "__name__" → mb y = bootBuiltins y) (lim : t.heap.NoLimit) (gens : t.gens = #[])
    (ha : t.heap.get? a = some { cls := .type "list", data := .seq vs.toArray }) (room : Room n callerA)
    (F : ∀ B : Heap, K.In B → B.Ns mainGlobals mg → FnG P w K mg B CX n fa fd [x] sp) (bi : ∀ (s : Shared) (u : Value), BindsTo s fd ⟨[u], []⟩ [(x, u)])
    (z : sp [.ref a] H (fun v _ => v = .bl true) fun _ _ _ => False) (noX : ∀ H e s', CX [] H t (fun _ _ _ => False) e s' → False)
    (only : Only H) (hok : HOk P w H t.heap) (hA : ∀ b, H b ≠ none → b = a) (hK : H a ≠ none → K.lookup a = none) :
    codeAny (model P w) callerA (.call (.ref fa) ⟨[.ref a], []⟩) (fun r s' => r = .ok (.ret (.bool true)) ∧ OldK t.heap s'.heap ∧ s'.os = t.os ∧ AllBare s'.gens) t := by
  have free : ∀ {b : Addr}, b ≠ a → H b = none := fun {b} hne => Classical.byContradiction fun q => hne (hA b q)
  have low : ∀ {b : Addr} {o : Obj}, t.heap.get? b = some o → H b = none → (hidT t.heap H).get? b = some o := fun e q => hidT_get e q
  have dict : ∀ {b : Addr} {o : Obj} {es : Array DictEntry} {ep : Nat}, t.heap.get? b = some o → o.data = .dict es ep → H b = none := fun {b o es ep} e d => free fun q => by
    subst q
    rw [ha] at e
    cases e
    exact nomatch (show Data.seq vs.toArray _ = Data.dict es ep from d)
  have ns : ∀ {b : Addr} {m : Str → Option Value}, t.heap.Ns b m → (hidT t.heap H).Ns b m := fun ⟨o, es, ep, e, d, r⟩ => ⟨o, es, ep, low e (dict e d), d, r⟩
  have kb : K.In (hidT t.heap H) := fun b o e => low (kin b o e) (by
    by_cases q : b = a
    · subst q
      exact Classical.byContradiction fun y => by rw [hK y] at e; cases e
    · exact free q)
  obtain ⟨mc, l1, l2⟩ := lim
  have env : Env0 P w K mg (hidT t.heap H) callerA [] t H :=
    { frames := rfl, mod := ⟨kb, ns hm, ⟨mb, ns hb, hbb⟩, ⟨mc, ns l1, l2⟩⟩, bs := fun b o e => of_hidT e, bsz := Nat.le_of_eq (hidT_size _ _), funs := trivial,
      frf := fun b q => absurd (show b ∈ ([] : List Addr) from q) (by simp), hok := hok, bare := .of_eq gens }
  refine codeAny_mono ((F _ kb (ns hm)).go callerA [] t H ⟨[.ref a], []⟩ [.ref a] [.ref a] _ _ rfl room env (bi t (.ref a)) (.cons rfl .nil) z) fun r s' y => ?_
  match r, y with
  | .error e, y => exact (noX H e s' y).elim
  | .ok (.ret u), ⟨v, H', os, bare, un, hok', ru, q⟩ =>
    cases (show v = .bl true from q)
    cases (show u = Value.bool true from ru)
    refine ⟨rfl, OldK.of_keep fun b o e => ?_, os, bare⟩
    match hq : H b with
    | none => exact un.keep b o e hq (by intro q; exact absurd (show b ∈ ([] : List Addr) from q) (by simp)) (by simp)
    | some u =>
      rcases only b with q | ⟨ob, xs, q⟩
      · rw [hq] at q; cases q
      · obtain ⟨e1, _⟩ := hok b _ q
        obtain ⟨e2, _⟩ := hok' b _ (un.frzs b ob _ q)
        rw [e] at e1; cases e1
        exact e2

theorem lawG {P : Program} {w : World} {K : PySem.W.Frag} {mg mb : Str → Option Value} {CX : CXT} {n : Nat} {fa a : Addr} {fd : FuncData} {x : Str} {sp : Sp} {t : Shared} {vs : List Value} {ns : List Int}
    (kin : K.In t.heap) (hm : t.heap.Ns mainGlobals mg) (hb : t.heap.Ns builtinsNs mb) (hbb : ∀ y : Str, y ≠ "__name__" → mb y = bootBuiltins y) (lim : t.heap.NoLimit) (gens : t.gens = #[])
    (ha : t.heap.get? a = some { cls := .type "list", data := .seq vs.toArray }) (hi : IntsAre vs ns) (hl : ns.length ≤ sizeLine) (room : Room n callerA)
    (F : ∀ B : Heap, K.In B → B.Ns mainGlobals mg → FnG P w K mg B CX n fa fd [x] sp) (bi : ∀ (s : Shared) (u : Value), BindsTo s fd ⟨[u], []⟩ [(x, u)])
    (z : ∀ H : Hp, Only H → SqL K H a (ns.map V.int) → sp [.ref a] H (fun v _ => v = .bl true) fun _ _ _ => False) (noX : ∀ H e s', CX [] H t (fun _ _ _ => False) e s' → False) :
    codeAny (model P w) callerA (.call (.ref fa) ⟨[.ref a], []⟩) (fun r s' => r = .ok (.ret (.bool true)) ∧ OldK t.heap s'.heap ∧ s'.os = t.os ∧ AllBare s'.gens) t := by
  have rv := vals_ints hi
  match hk : K.lookup a with
  | some o =>
    have e := kin a o hk
    rw [ha] at e
    cases e
    have on : Only fun _ => none := fun _ => .inl rfl
    exact lawG0 kin hm hb hbb lim gens ha room F bi (z _ on (.inr ⟨_, vs.toArray, _, hk, rfl, rfl, rfl, by rw [List.size_toArray, hi.length]; exact hl, by simpa using rv⟩)) noX on
      (fun b u q => nomatch (show (none : Option HO) = some u from q)) (fun b q => absurd rfl q) fun q => absurd rfl q
  | none =>
    have at0 : ∀ {b : Addr}, b ≠ a → (if b = a then some (HO.frz { cls := .type "list", data := .seq vs.toArray } (.lst (ns.map V.int))) else none) = none := fun q => if_neg q
    have on : Only fun b => if b = a then some (HO.frz { cls := .type "list", data := .seq vs.toArray } (.lst (ns.map V.int))) else none := fun b => by
      by_cases q : b = a
      · exact .inr ⟨_, _, if_pos q⟩
      · exact .inl (if_neg q)
    refine lawG0 kin hm hb hbb lim gens ha room F bi (z _ on (.inl (.inr ⟨_, if_pos rfl⟩))) noX on (fun b u q => ?_) (fun b q => Classical.byContradiction fun y => q (if_neg y)) fun _ => hk
    by_cases y : b = a
    · subst y
      cases (if_pos rfl).symm.trans q
      exact ⟨ha, by rw [List.length_map]; exact hl, vs, _, rv, ha⟩
    · cases (at0 y).symm.trans q

/-- the goal that the head leaves, from the law's promise -/
theorem walkG {l : PySem.W.OpenLaw} {m n : Nat} {q : Program} {loose : List Str} {XP : (Str → Option Value) → Heap → Prop} {YP : World → Heap → Prop} {d : DefRec} {K : Params → PySem.W.Frag} {CX : CXT} {sp : PySem.W.Frag → Sp} {x : Str}
    (hn : l.most = some m) (hm : m ≤ sizeLine) (hdf : d.params.defaults = []) (room : Room n callerA) (hY : ∀ (w : World) (h : Heap), YP w h → (K w.params).In h)
    (F : ∀ (w : World) (mg : Str → Option Value) (fa : Addr) (h : Heap), (K w.params).In h → h.Ns mainGlobals mg → mg d.name = some (.ref fa) →
      ∃ fd : FuncData, (∀ (s : Shared) (u : Value), BindsTo s fd ⟨[u], []⟩ [(x, u)]) ∧
        ∀ B : Heap, (K w.params).In B → B.Ns mainGlobals mg → FnG l.prog w (K w.params) mg B CX n fa fd [x] (sp (K w.params)))
    (z : ∀ (K : PySem.W.Frag) (H : Hp) (a : Addr) (ns : List Int), ns.length ≤ m → Only H → SqL K H a (ns.map V.int) → sp K [.ref a] H (fun v _ => v = .bl true) fun _ _ _ => False)
    (noX : ∀ (H : Hp) (s : Shared) (e : Value) (s' : Shared), CX [] H s (fun _ _ _ => False) e s' → False) : PySem.W.WalkO q loose XP YP l.row.toRowW d [] (fun f vs => PySem.call f vs) :=
  Att.attach_call hn hdf fun w s0 s1 mg mb fa o pm cd doc a vs ns G Y ho hd hcd hmg hobj hints hlen hg =>
    have ⟨fd, hb, hF⟩ := F w mg fa _ (hY w _ Y) G.T.g hmg
    lawG (hY w _ Y) G.T.g G.T.b G.T.builtins G.T.nolimit hg hobj hints (Nat.le_trans hlen hm) room hF hb (fun H hO hS => z (K w.params) H a ns hlen hO hS) fun H e s' => noX H s1 e s'
end Xk

set_option Elab.async false
set_option linter.all false
set_option maxRecDepth 100000
namespace Xk
open PySem PySem.Spec PyProof.Rows L2

/-- ** with a whole exponent: base's bits times exponent within 2^27 -/
def CPowW (i j : Int) : Prop := 0 ≤ j ∧ (Builtin.Int.intBits i : Int) * j ≤ 2 ^ 27
section
variable {X : Cx}
theorem op_powW : OpR X (binaryOp .Pow) (rI CPowW fun i j => .int (i ^ j.toNat)) := opI fun _ _ _ _ _ _ _ hc q => pow_int hc.1 hc.2 q
end
theorem bits_le {i : Int} {n : Nat} (h : i.natAbs < 2 ^ n) : Builtin.Int.intBits i ≤ n := by
  unfold Builtin.Int.intBits
  split
  · omega
  · rename_i h0
    have h0' : i.natAbs ≠ 0 := by
      intro z
      apply h0
      simp [Int.natAbs_eq_zero.mp z]
    have := (Nat.log2_lt h0').mpr h
    omega
theorem powW {i : Int} {n : Nat} {j : Int} (h : i.natAbs < 2 ^ n) (h0 : 0 ≤ j) (hj : j ≤ 3) (hn : n ≤ 40000000) : CPowW i j := by
  refine ⟨h0, ?_⟩
  have h1 := bits_le h
  have : (Builtin.Int.intBits i : Int) * j ≤ 40000000 * 3 := by
    refine Int.mul_le_mul ?_ hj h0 (by omega)
    omega
  refine Int.le_trans this (by decide)

/-! ### xs[i] read for op= -/
section
variable {X : Cx}
theorem get_list : PGet X (rIxL X.K) := by
  intro pins s σ H o i ov iv Q I ro ri h
  obtain ⟨p, xs, k, z, rfl, rfl, hq, he, q⟩ := h
  cases ro
  obtain ⟨t, rfl⟩ := ri
  obtain ⟨its, r, pl, hz⟩ := I.list hq
  obtain ⟨j, h1, h2, h3, h4, h5⟩ := atI_get he
  obtain ⟨u, eu, ru⟩ := r.get h2
  have hl := r.length
  have hn := line63
  by_cases h0 : 0 ≤ k
  · have hj : k.toNat = j := by
      rw [seqIndex_of h0 h5] at h1
      exact Option.some.inj h1
    exact wpAny_getItem_list pl.isList h0 (by omega) (by rw [hj]; simpa using eu) ⟨z, H, I, ru, q⟩
  · have hj : (k + (its.toArray.size : Int)).toNat = j := by
      rw [seqIndex_neg (by omega) h4] at h1
      rw [List.size_toArray, ← hl]
      exact Option.some.inj h1
    exact wpAny_getItem_list_neg pl.isList (by omega) (by rw [List.size_toArray] <;> omega) (by omega) (by rw [hj]; simpa using eu) ⟨z, H, I, ru, q⟩
end

/-! ### xs[a:c] = ys -/
section
variable {X : Cx} {o : Expr} {lo hi : Option Expr} {to : TE} {tl th : TO} {p2 pos : Pos}
def gSlc (to : TE) (tl th : TO) : TG := fun v σ H Q => to σ H fun x H1 => tl σ H1 fun l H2 => th σ H2 fun u H3 =>
  ∃ (p b : Addr) (xs ys : List V) (a c : Int), x = .ref p ∧ v = .ref b ∧ l = some a ∧ u = some c ∧ H3 p = some (.lst xs) ∧ H3 b = some (.lst ys) ∧ p ≠ b ∧ 0 ≤ a ∧ a ≤ c ∧ c ≤ xs.length ∧ xs.length + ys.length ≤ sizeLine ∧
    Q σ (upd H3 p (.lst (xs.take a.toNat ++ ys ++ xs.drop c.toNat)))
theorem pg_slc (ho : PE X o to) (hl : PO X lo tl) (hu : PO X hi th) : PG X (.Subscript o (.Slice lo hi none p2) pos) (gSlc to tl th) := by
  refine ⟨fun pins s σ H v u Q I r z => ?_⟩
  rw [arm_assign_Subscript]
  refine wpAny_bind (wpAny_holding (thn (ho.run pins s σ H _ I z) fun ov s1 ⟨x, H1, I1, r1, q1⟩ => ?_))
  refine wpAny_bind (wpAny_holding (wpAny_Slice (thn (hl.run pins s1 σ H1 _ I1 q1) fun vl s2 ⟨l, H2, I2, pl, q2⟩ => thn (hu.run pins s2 σ H2 _ I2 q2) fun vu s3 ⟨c', H3, I3, pu, q3⟩ => ?_)))
  rw [evalPart_none]
  refine wpAny_pure ?_
  obtain ⟨p, b, xs, ys, a, c, rfl, rfl, rfl, rfl, hp, hb, hne, h0, hac, hc, hz, q⟩ := q3
  cases r1
  cases r
  cases pl with
  | int _ ta =>
    cases pu with
    | int _ tc =>
      have I4 : Inv X pins σ H3 { s3 with heap := s3.heap.push { cls := .type "slice", data := .fields #[.int a ta, .int c tc, .none] } } := I3.kept (t' := s3.toks) fun b ob q => Heap.get?_push_of_some _ q
      refine wpAny_bind (wpAny_standAt (wpAny_bind (wpAny_holding (set_slice I4 hp hb hne (Heap.IsSliceOf.new ..) ⟨ta, rfl⟩ ⟨tc, rfl⟩ h0 hac hc hz fun s' I5 => ?_))))
      exact wpAny_release ⟨σ, _, I5, q⟩
end

/-! ### repr of lists -/
section
variable {X : Cx}
mutual
theorem dp_nodict {K : PySem.W.Frag} {H : Hp} : ∀ (d : PyData) (v : V), Dp K H v d → d.hasDict = false
  | .none, _, _ => rfl
  | .bool _, _, _ => rfl
  | .int _, _, _ => rfl
  | .str _, _, _ => rfl
  | .list ds, _, h => by
    cases h with
    | lst _ a => exact dp_nodictAll ds _ a
  | .tuple ds, _, h => by
    cases h with
    | tup _ a => exact dp_nodictAll ds _ a
  | .dict _, _, h => by cases h
theorem dp_nodictAll {K : PySem.W.Frag} {H : Hp} : ∀ (ds : List PyData) (vs : List V), DpAll K H vs ds → PyData.hasDictAll ds = false
  | [], _, _ => rfl
  | d :: ds, _, h => by
    cases h with
    | cons a b =>
      show (d.hasDict || PyData.hasDictAll ds) = false
      rw [dp_nodict d _ a, dp_nodictAll ds _ b]
      rfl
end
def rReprD (K : PySem.W.Frag) : List V → Hp → VK → Prop := fun xs H Q => ∃ a d, xs = [.ref a] ∧ Dp K H (.ref a) d ∧ d.showable = true ∧ d.depth ≤ 60 ∧ d.shown.length ≤ sizeLine ∧ Q (.str d.shown) H
theorem call_reprD (hG : X.A.guards = some []) (hu : X.A.units + 64 < cLine) : CallR X (.builtin "repr") (rReprD X.K) := by
  intro pins s σ H xs us Q I r h
  obtain ⟨a, d, rfl, hd, hs, hdp, hz, q⟩ := h
  obtain ⟨u, rfl, rfl⟩ := vals1 r
  obtain ⟨as, rd⟩ := Dp.reads I d _ _ hd rfl
  exact repr_of_reads' rd hs (fun z => by rw [dp_nodict d _ hd] at z; cases z) hG (by omega) (fun b o e => e) (fun h' u tk k => ⟨.str d.shown, H, I.kept k, ⟨u, rfl⟩, q⟩) hz
end
end Xk

set_option Elab.async false
set_option linter.all false
set_option maxRecDepth 100000
namespace Xk
open PySem PySem.Spec PyProof.Rows L2
/-! ### list(range(a, b, c)) -/
def rg3V (i c : Int) (n : Nat) : List V := (List.range n).map fun k => V.int (i + (k : Nat) * c)
theorem rg3V_length (i c : Int) (n : Nat) : (rg3V i c n).length = n := by unfold rg3V; simp
theorem vals_rg3 {i c : Int} {n : Nat} {acc : Array Value} (h : ItemsOf (fun k v => ∃ t, v = .int (i + k * c) t) acc n) : Vals (rg3V i c n) acc.toList := by
  have e : acc.toList.length = n := by rw [Array.length_toList]; exact h.1
  unfold rg3V
  rw [← e]
  refine vals_of_get _ (fun k => V.int (i + (k : Nat) * c)) fun j u hu => ?_
  exact h.2 j u (by simpa using hu)
def tLst3 (ta : TA) : TE := fun σ H Q => ta σ H fun vs H1 => ∃ (i j c : Int) (n : Nat), vs = [.int i, .int j, .int c] ∧ RgC i j c n ∧ n ≤ 2 ^ 24 ∧ ∀ q, H1 q = none → Q (.ref q) (upd H1 q (.lst (rg3V i c n)))
section
variable {X : Cx} {a b c : Expr} {ta : TA} {p pos p1 pos1 : Pos}
theorem pe_listRg3 (calm : X.calm = true) (hl : Gl X "list") (ml : X.mg "list" = none) (hg : Gl X "range") (hm : X.mg "range" = none) (ha : PA X [a, b, c] ta)
    (hs : starEach [a, b, c] X.env = (false, eval a X.env) :: starEach [b, c] X.env := by rfl) (hpl : (backTo pos (starEach [b, c] X.env)).any (·.1) = false := by rfl)
    (na : starEach [Expr.Call (.Name "range" p) [a, b, c] [] pos] X.env = (false, eval (Expr.Call (.Name "range" p) [a, b, c] [] pos) X.env) :: starEach [] X.env := by rfl) :
    PE X (.Call (.Name "list" p1) [.Call (.Name "range" p) [a, b, c] [] pos] [] pos1) (tLst3 ta) := by
  refine ⟨fun pins s σ H Q I z => ?_⟩
  refine Call_ (ld_blt I hl ml boot_list (PyProof.Rows.callWith_type1 (args_cons (Call_ (ld_blt I hg hm boot_range (PyProof.Rows.callWith_type1 (thn (ha.run pos pins s σ H _ I z) fun us s1 ⟨vs, H1, I1, r1, q1⟩ => ?_) hs hpl))) na) na))
  obtain ⟨i, j, k, n, e, ⟨c0, c1, c2, c3⟩, hn, q⟩ := q1
  subst e
  cases r1 with
  | cons r rr =>
    cases rr with
    | cons r' rr =>
      cases rr with
      | cons r'' rr =>
        cases rr
        obtain ⟨t, rfl⟩ := r
        obtain ⟨t', rfl⟩ := r'
        obtain ⟨t'', rfl⟩ := r''
        refine call_range_3 c0 (args_nil ?_) (.inl (PyProof.noPylong_small c1))
        have I2 : Inv X pins σ H1 { s1 with heap := s1.heap.push { cls := .type "range", data := .fields #[.int i t, .int j t', .int k t''] }, toks := s1.toks } := I1.kept fun b o e => Heap.get?_push_of_some _ e
        refine call_list_range (n := n) (I2.ok.hd calm) (IsRange.new ..) c2 c3 hn fun h' tk acc c' hk e' hi => ?_
        refine ⟨.ref _, upd H1 _ (.lst (rg3V i k n)), I2.laid hk (Nat.le_refl _) (show ObjOk X.prog X.w _ _ _ (.lst (rg3V i k n)) from ⟨?_, acc.toList, c', vals_rg3 hi, ?_⟩), rfl, q _ (I2.hok.fresh (Nat.le_refl _))⟩
        · rw [rg3V_length]; exact hn
        · rw [Array.toArray_toList]; exact e'
end
end Xk

set_option Elab.async false
set_option linter.all false
set_option maxRecDepth 100000
namespace Xk
open PySem PySem.Spec PyProof.Rows L2

section
variable {P : Program} {w : World} {K : PySem.W.Frag} {mg : Str → Option Value} {base : Heap}
/-- a def by its body, the guards known, nothing raised -/
theorem okG {x qual : Str} {st : Stmt} {f : Addr} {fd : FuncData} {N ps : List Str} {k : Nat} {sp : Sp} (F : Fun K x qual st f fd) (S : FnScope N ps (defScope st)) (cnt : ∀ vs H Q E, sp vs H Q E → vs.length = ps.length)
    (body : ∀ (cdv : Value) (A : Around) (ou : List Env) (t : Shared) (H : Hp) (vs : List V) (Q : VK) (E : XK), A.guards = some [] → Room k (A.deeper (envOfC qual (defScope st) t.heap.objs.size f cdv)) → sp vs H Q E →
      ∃ r, PSs (cxOf CX0 P w K mg base N qual (defScope st) f cdv A ou t H E).nox (defBody st) r ∧ r ⟨fun _ H' => Q .non H', Q, fun _ _ => False, fun _ _ => False⟩ (L2.start N vs) H) : FnG P w K mg base CX0 (k + 1) f fd ps sp := by
  obtain ⟨oc, od, kV, doc, pm, an, cdv, ct, osl, rfl, lk, hcd⟩ := F.ex
  refine fnG_of lk hcd S cnt fun A ou t H vs Q E hG hr hsp => ?_
  obtain ⟨r, h, q⟩ := body cdv A ou t H vs Q E hG hr hsp
  exact ⟨r, h.nox, q⟩
end

/-! ### words -/
section
variable {X : Cx} {x : Str} {pos pos' : Pos} {e : Expr} {te : TE} {op : Operator} {ti : TIp}
theorem sset (i : Nat) (nd : X.N.Nodup) (he : PE X e te) (hi : X.N[i]? = some x := by rfl) (hx : Loc X.env.scope x := by first | exact Or.inl rfl | exact Or.inr rfl)
    (hs : swapsWith e (some (.Name x pos')) pos.line X.env = pure false := by rfl) (hf : X.fn x = true ∨ X.env.scope.names.lookup x = some .local := by first | exact Or.inl rfl | exact Or.inr rfl) : PS X (.Assign [.Name x pos'] e pos) (tAsg te (gName i)) := ps_set nd hi hx he hs hf
theorem gset (i : Nat) (nd : X.N.Nodup) (hi : X.N[i]? = some x := by rfl) (hx : Loc X.env.scope x := by first | exact Or.inl rfl | exact Or.inr rfl) (hf : X.fn x = true ∨ X.env.scope.names.lookup x = some .local := by first | exact Or.inl rfl | exact Or.inr rfl) : PG X (.Name x pos) (gName i) := pg_name nd hi hx hf
theorem saug (i : Nat) (nd : X.N.Nodup) (he : PE X e te) (ho : PIp X op ti) (hi : X.N[i]? = some x := by rfl) (hx : Loc X.env.scope x := by first | exact Or.inl rfl | exact Or.inr rfl) (hf : X.fn x = true ∨ X.env.scope.names.lookup x = some .local := by first | exact Or.inl rfl | exact Or.inr rfl) : PS X (.AugAssign (.Name x pos') op e pos) (tAug i te ti) := ps_aug nd hi hx he ho hf
end
/-! ### the rules that speak of the written part, the part given -/
section
variable {X : Cx} (K : PySem.W.Frag) {e a b l o : Expr} {es ts : List Expr} {te ta tb tl to : TE} {t : TA} {g : TGs} {pos cpos apos p p1 p2 p3 tpos : Pos} {tg : Expr} {T id : String} {name : Str}
theorem ix_listK (hK : X.K = K := by rfl) : IxR X (rIxL K) := hK ▸ ix_list
theorem ix_tupK (hK : X.K = K := by rfl) : IxR X (rIxT K) := hK ▸ ix_tup
theorem sl_listK (hK : X.K = K := by rfl) : SlR X (rSlL K) := hK ▸ sl_list
theorem sl_tupK (hK : X.K = K := by rfl) : SlR X (rSlT K) := hK ▸ sl_tup
def rLen (K : PySem.W.Frag) : List V → Hp → VK → Prop := fun xs H Q => ∃ p ys, xs = [.ref p] ∧ (SqL K H p ys ∨ SqT K H p ys) ∧ Q (.int ys.length) H
theorem lenK (hK : X.K = K := by rfl) : CallR X (.builtin "len") (rLen K) := hK ▸ call_len_seq
def rListOf (K : PySem.W.Frag) : List V → Hp → VK → Prop := fun xs H Q => ∃ p ys, xs = [.ref p] ∧ (SqL K H p ys ∨ SqT K H p ys) ∧ ∀ l, H l = none → Q (.ref l) (upd H l (.lst ys))
theorem listK (hK : X.K = K := by rfl) : CallR X (.type "list") (rListOf K) := hK ▸ call_list_of
def rTupOf (K : PySem.W.Frag) : List V → Hp → VK → Prop := fun xs H Q => ∃ p ys, xs = [.ref p] ∧ ((SqL K H p ys ∧ ∀ l, H l = none → Q (.ref l) (upd H l (.tup ys))) ∨ (SqT K H p ys ∧ Q (.ref p) H))
theorem tupleK (hK : X.K = K := by rfl) : CallR X (.type "tuple") (rTupOf K) := hK ▸ call_tuple_of
theorem sumK (hc : X.calm = true) (hK : X.K = K := by rfl) : CallR X (.builtin "sum") (rSum K) := hK ▸ cr_sum hc
theorem minK (hc : X.calm = true) (hK : X.K = K := by rfl) : CallR X (.builtin "min") (rMin K) := hK ▸ cr_min hc
theorem maxK (hc : X.calm = true) (hK : X.K = K := by rfl) : CallR X (.builtin "max") (rMax K) := hK ▸ cr_max hc
theorem allK (hc : X.calm = true) (hK : X.K = K := by rfl) : CallR X (.builtin "all") (rAll K) := hK ▸ cr_all hc
theorem anyK (hc : X.calm = true) (hK : X.K = K := by rfl) : CallR X (.builtin "any") (rAny K) := hK ▸ cr_any hc
theorem sortedK (hK : X.K = K := by rfl) : CallR X (.builtin "sorted") (rSortedI K) := hK ▸ cr_sortedI
theorem sortedRK (hK : X.K = K := by rfl) : CallRK X (.builtin "sorted") [Str.ofString "reverse"] (rSortedKw K true [.bl true]) := hK ▸ cr_sortedRev
theorem reprK (hG : X.A.guards = some []) (hu : X.A.units + 64 < cLine) (hK : X.K = K := by rfl) : CallR X (.builtin "repr") (rReprD K) := hK ▸ call_reprD hG hu
theorem eqDK (hu : X.A.units + 64 < cLine) (hK : X.K = K := by rfl) : OpR X (compareOp .Eq) (rEqD K) := hK ▸ op_eqD hu
theorem neDK (hu : X.A.units + 64 < cLine) (hK : X.K = K := by rfl) : OpR X (compareOp .NotEq) (rNeD K) := hK ▸ op_neD hu
theorem inK (hK : X.K = K := by rfl) : OpR X (compareOp .In) (rIn K false) := hK ▸ op_in_seq
theorem notInK (hK : X.K = K := by rfl) : OpR X (compareOp .NotIn) (rIn K true) := hK ▸ op_notIn_seq
theorem lcountK (hK : X.K = K := by rfl) : MtR X "list.count" (rCntI K) := hK ▸ mt_lcount
theorem lindexK (hK : X.K = K := by rfl) : MtR X "list.index" (rIndex K) := hK ▸ mt_index
theorem getK (hK : X.K = K := by rfl) : PGet X (rIxL K) := hK ▸ get_list
theorem pi_listK (h : PE X l tl) (hK : X.K = K := by rfl) : PI X tg l (iList K tl) := hK ▸ pi_list h
theorem pi_tupK (h : PE X l tl) (hK : X.K = K := by rfl) : PI X tg l (iTup K tl) := hK ▸ pi_tup h
theorem pi_enumK {elts : List Expr} {kk : Nat} (hg : Gl X "enumerate") (hm : X.mg "enumerate" = none) (ha : PA X [e] t) (hs : starEach [e] X.env = [(false, eval e X.env)] := by rfl) (hK : X.K = K := by rfl) :
    PI X (.Tuple elts kk tpos) (.Call (.Name "enumerate" p) [e] [] pos) (iEnum K t) := hK ▸ pi_enum hg hm ha hs
theorem pi_reversedK (hg : Gl X "reversed") (hm : X.mg "reversed" = none) (ha : PA X [e] t) (hs : starEach [e] X.env = [(false, eval e X.env)] := by rfl) (hK : X.K = K := by rfl) : PI X tg (.Call (.Name "reversed" p) [e] [] pos) (iRev K t) := hK ▸ pi_reversed hg hm ha hs
theorem pe_revLK {k : Nat} (he : PE X e te) (hK : X.K = K := by rfl) : PE X (.Subscript e (.Slice none none (some (.UnaryOp .USub (.Constant (.int 1) k p1) p2)) p3) pos) (tRevL K te) := hK ▸ pe_revL he
theorem pg_tupK {k : Nat} (n : Nat) (hc : X.calm = true) (h : PGs X es g) (hn : (assignEach es X.env).length = n := by rfl) (hst : (assignEach es X.env).findIdx? (·.1) = none := by rfl) (hK : X.K = K := by rfl) : PG X (.Tuple es k pos) (gTup K n g) := hK ▸ pg_tup hc h hn hst
theorem pi_zipK {e2 : Expr} {elts : List Expr} {kk : Nat} (hg : Gl X "zip") (hm : X.mg "zip" = none) (ha : PA X [e, e2] t)
    (hs : starEach [e, e2] X.env = (false, eval e X.env) :: starEach [e2] X.env := by rfl) (hpl : (backTo pos (starEach [e2] X.env)).any (·.1) = false := by rfl) (hK : X.K = K := by rfl) :
    PI X (.Tuple elts kk tpos) (.Call (.Name "zip" p) [e, e2] [] pos) (iZip K t) := hK ▸ pi_zip hg hm ha hs hpl
theorem pe_bmK {r : V → List V → Hp → VK → Prop} (pa : PlainAttrs T) (slot : Slot T name id) (hty : typeOf (.builtin id) = pure (.type "method_descriptor")) (hm : MtR X id r) (ho : PE X o to) (ha : PA X (e :: es) t)
    (hbase : attributeBase o name X.env (eval o X.env) = eval o X.env := by rfl)
    (hfew : ((backTo cpos (starEach (e :: es) X.env)).all (fun x => !x.1) && (backToKw cpos (keywordEach [] X.env)).all (fun x => x.1.isSome) && decide ((e :: es).length + ([] : List Keyword).length + (if ([] : List Keyword).isEmpty then 0 else 1) < 30)) = true := by rfl)
    (hline : (apos.endLine == cpos.line) = true := by rfl) (hs : starEach (e :: es) X.env = (false, eval e X.env) :: starEach es X.env := by rfl) (hplain : (backTo cpos (starEach es X.env)).any (·.1) = false := by rfl) (hK : X.K = K := by rfl) :
    PE X (.Call (.Attribute o name apos) (e :: es) [] cpos) (tBM K T r to t) := hK ▸ pe_bm pa slot hty hm ho ha hbase hfew hline hs hplain
theorem pe_bm0K {r : V → List V → Hp → VK → Prop} (pa : PlainAttrs T) (slot : Slot T name id) (hty : typeOf (.builtin id) = pure (.type "method_descriptor")) (hm : MtR X id r) (ho : PE X o to)
    (hbase : attributeBase o name X.env (eval o X.env) = eval o X.env := by rfl) (hline : (apos.endLine == cpos.line) = true := by rfl) (hK : X.K = K := by rfl) : PE X (.Call (.Attribute o name apos) [] [] cpos) (tBM0 K T r to) := hK ▸ pe_bm0 pa slot hty hm ho hbase hline
def tTruth (K : PySem.W.Frag) (ta : TE) : TT := fun σ H Q => ta σ H fun x H' => ∃ k, TruV K x H' k ∧ Q k H'
theorem pt_truthK (ha : PE X a ta) (he : ∀ whole, isTrue a X.env whole = (do let v ← whole; standAt a.pos; holding [v] (truthy v)) := by intro _; rfl) (hK : X.K = K := by rfl) : PT X a (tTruth K ta) := hK ▸ pt_truth ha he
end
end Xk

set_option Elab.async false
set_option linter.all false
set_option maxRecDepth 100000
namespace Xk
open PySem PySem.Spec PyProof.Rows L2

section
variable {K : PySem.W.Frag} {σ : L2.St} {H : Hp} {Q : VK} {R : List V → Hp → Prop} {ta tb te tc tv : TE} {tA : TA} {t u : TT} {v x y : V} {i j : Int} {Qb : Bool → Hp → Prop}
  {nx bk ct : L2.St → Hp → Prop} {rt : VK} {s1 s2 : TS} {g g1 : TG} {gs : TGs}
/-! ### expressions -/
theorem r_var {n : Nat} (h : σ[n]? = some (some v)) (q : Q v H) : tVar n σ H Q := ⟨v, h, q⟩
theorem r_c (q : Q v H) : tC v σ H Q := q
theorem r_op {r : R2} (h : ta σ H fun x H1 => tb σ H1 fun y H2 => r x y H2 Q) : tOp r ta tb σ H Q := h
theorem r_un {r : V → Hp → VK → Prop} (h : ta σ H fun x H1 => r x H1 Q) : tUn r ta σ H Q := h
theorem r_I0 {f : Int → Int → V} (q : Q (f i j) H) : rI0 f (.int i) (.int j) H Q := ⟨i, j, rfl, rfl, q⟩
theorem r_I {C : Int → Int → Prop} {f : Int → Int → V} (hc : C i j) (q : Q (f i j) H) : rI C f (.int i) (.int j) H Q := ⟨i, j, rfl, rfl, hc, q⟩
theorem r_U {f : Int → V} (q : Q (f i) H) : rU f (.int i) H Q := ⟨i, rfl, q⟩
theorem r_ixL {p : Addr} {xs : List V} (h : SqL K H p xs) (ha : atI xs i = some v) (q : Q v H) : rIxL K (.ref p) (.int i) H Q := ⟨p, xs, i, v, rfl, rfl, h, ha, q⟩
theorem r_ixT {p : Addr} {xs : List V} (h : SqT K H p xs) (ha : atI xs i = some v) (q : Q v H) : rIxT K (.ref p) (.int i) H Q := ⟨p, xs, i, v, rfl, rfl, h, ha, q⟩
theorem r_nil (q : R [] H) : tNil σ H R := q
theorem r_cons (h : ta σ H fun x H1 => tA σ H1 fun xs H2 => R (x :: xs) H2) : tCons ta tA σ H R := h
theorem r_lst (h : tA σ H fun xs H1 => xs.length ≤ sizeLine ∧ ∀ p, H1 p = none → Q (.ref p) (upd H1 p (.lst xs))) : tLst tA σ H Q := h
theorem r_tup (h : tA σ H fun xs H1 => xs.length ≤ sizeLine ∧ ∀ p, H1 p = none → Q (.ref p) (upd H1 p (.tup xs))) : tTup tA σ H Q := h
theorem r_call {sp : Sp} {dvs : List V} {E : XK} (h : tA σ H fun vs H1 => sp (vs ++ dvs) H1 Q E) : tCall sp dvs E tA σ H Q := h
theorem r_callK {sp : Sp} {gV : List V → List V → List V} {E : XK} {tk : TA} (h : tA σ H fun vs H1 => tk σ H1 fun zs H2 => sp (gV vs zs) H2 Q E) : tCallK sp gV E tA tk σ H Q := h
theorem r_cb {r : List V → Hp → VK → Prop} (h : tA σ H fun vs H1 => r vs H1 Q) : tCB r tA σ H Q := h
theorem r_ckw {r : List V → List V → Hp → VK → Prop} {tk : TA} (h : tA σ H fun vs H1 => tk σ H1 fun zs H2 => r vs zs H2 Q) : tCKw r tA tk σ H Q := h
theorem r_sl {r : V → Option Int → Option Int → Hp → VK → Prop} {tl th : TO} (h : te σ H fun x H1 => tl σ H1 fun l H2 => th σ H2 fun u H3 => r x l u H3 Q) : tSl r te tl th σ H Q := h
theorem r_part {Qo : Option Int → Hp → Prop} (h : te σ H fun x H1 => ∃ i, x = .int i ∧ Qo (some i) H1) : tPart te σ H Qo := h
theorem r_nopart {Qo : Option Int → Hp → Prop} (h : Qo none H) : tNoPart σ H Qo := h
theorem r_exi {Qo : Int → Prop} (h : Qo i) : ∃ j, V.int i = .int j ∧ Qo j := ⟨i, rfl, h⟩
theorem r_exb {b : Bool} {Qo : Bool → Prop} (h : Qo b) : ∃ j, V.bl b = .bl j ∧ Qo j := ⟨b, rfl, h⟩
theorem r_slL {p : Addr} {xs : List V} {lo hi : Option Int} (h : SqL K H p xs) (q : ∀ n, H n = none → Q (.ref n) (upd H n (.lst (cutV xs lo hi)))) : rSlL K (.ref p) lo hi H Q := ⟨p, xs, rfl, h, q⟩
theorem r_bm {T : String} {r : V → List V → Hp → VK → Prop} (h : te σ H fun x H1 => tyV K T x H1 ∧ tA σ H1 fun xs H2 => r x xs H2 Q) : tBM K T r te tA σ H Q := h
theorem r_bm0 {T : String} {r : V → List V → Hp → VK → Prop} (h : te σ H fun x H1 => tyV K T x H1 ∧ r x [] H1 Q) : tBM0 K T r te σ H Q := h
theorem ty_list {p : Addr} {xs : List V} (h : SqL K H p xs) : tyV K "list" (.ref p) H := .inl ⟨rfl, xs, h⟩
theorem r_append {p : Addr} {xs : List V} {y : V} (h : H p = some (.lst xs)) (hz : xs.length < sizeLine) (q : Q .non (upd H p (.lst (xs ++ [y])))) : rAppend (.ref p) [y] H Q := ⟨p, xs, y, rfl, rfl, h, hz, q⟩
theorem r_if {tif : TT} (h : tif σ H fun c H1 => if c = true then ta σ H1 Q else tb σ H1 Q) : tIf tif ta tb σ H Q := h
theorem r_andV (h : ta σ H fun x H1 => ∃ c, x = .bl c ∧ if c = true then tb σ H1 Q else Q (.bl false) H1) : tAndV ta tb σ H Q := h
theorem r_orV (h : ta σ H fun x H1 => ∃ c, x = .bl c ∧ if c = true then Q (.bl true) H1 else tb σ H1 Q) : tOrV ta tb σ H Q := h
theorem r_notV (h : ta σ H fun x H1 => ∃ c, x = .bl c ∧ Q (.bl (!c)) H1) : tNotV ta σ H Q := h
theorem r_eqI (q : Q (.bl (decide (i = j))) H) : rEq (.int i) (.int j) H Q := by
  refine ⟨rfl, ?_⟩
  have : decide (V.int i = V.int j) = decide (i = j) := by simp
  rw [this]
  exact q
theorem r_neI (q : Q (.bl (!decide (i = j))) H) : rNe (.int i) (.int j) H Q := by
  refine ⟨rfl, ?_⟩
  have : decide (V.int i = V.int j) = decide (i = j) := by simp
  rw [this]
  exact q
theorem r_eqS {a b : Str} (q : Q (.bl (decide (a = b))) H) : rEq (.str a) (.str b) H Q := by
  refine ⟨rfl, ?_⟩
  have : decide (V.str a = V.str b) = decide (a = b) := by simp
  rw [this]
  exact q
theorem r_neS {a b : Str} (q : Q (.bl (!decide (a = b))) H) : rNe (.str a) (.str b) H Q := by
  refine ⟨rfl, ?_⟩
  have : decide (V.str a = V.str b) = decide (a = b) := by simp
  rw [this]
  exact q
theorem r_len {p : Addr} {xs : List V} (h : SqL K H p xs) (q : Q (.int xs.length) H) : Xk.rLen K [.ref p] H Q := ⟨p, xs, rfl, .inl h, q⟩
theorem r_listOf {p : Addr} {xs : List V} (h : SqL K H p xs) (q : ∀ l, H l = none → Q (.ref l) (upd H l (.lst xs))) : rListOf K [.ref p] H Q := ⟨p, xs, rfl, .inl h, q⟩
theorem r_sum {p : Addr} {ns : List Int} (h : SqL K H p (ns.map V.int)) (q : Q (.int ns.sum) H) : rSum K [.ref p] H Q := ⟨p, ns, rfl, h, q⟩
theorem r_notT {A B : Prop} (h : B) : if (!true) = true then A else B := by simpa using h
theorem r_notF {A B : Prop} (h : A) : if (!false) = true then A else B := by simpa using h
/-! ### tests -/
theorem r_test (h : te σ H fun x H' => ∃ k, x = .bl k ∧ Qb k H') : tTest te σ H Qb := h
theorem r_tB (h : te σ H fun x H' => ∃ k, x = .bl k ∧ Qb k H') : tB te σ H Qb := h
theorem r_tand (h : t σ H fun c H1 => if c = true then u σ H1 Qb else Qb false H1) : tAnd t u σ H Qb := h
theorem r_tor (h : t σ H fun c H1 => if c = true then Qb true H1 else u σ H1 Qb) : tOr t u σ H Qb := h
theorem r_tnot (h : t σ H fun c H1 => Qb (!c) H1) : tNot t σ H Qb := h
theorem r_yes (h : Qb true H) : tYes σ H Qb := h
theorem r_dec {p : Prop} [Decidable p] {A B : Prop} (h1 : p → A) (h2 : ¬p → B) : if decide p = true then A else B := by
  by_cases h : p
  · rw [decide_eq_true h]; exact h1 h
  · rw [decide_eq_false h]; exact h2 h
theorem r_ndec {p : Prop} [Decidable p] {A B : Prop} (h1 : ¬p → A) (h2 : p → B) : if (!decide p) = true then A else B := by
  by_cases h : p
  · rw [decide_eq_true h]; exact h2 h
  · rw [decide_eq_false h]; exact h1 h
theorem r_itT {A B : Prop} (h : A) : if true = true then A else B := by rw [if_pos rfl]; exact h
theorem r_itF {A B : Prop} (h : B) : if false = true then A else B := by rw [if_neg Bool.false_ne_true]; exact h
/-! ### statements -/
theorem r_seq (h : s1 ⟨s2 ⟨nx, rt, bk, ct⟩, rt, bk, ct⟩ σ H) : tSeq s1 s2 ⟨nx, rt, bk, ct⟩ σ H := h
theorem r_cut {u : TS} (Mid : L2.St → Hp → Prop) (h : s1 ⟨Mid, rt, bk, ct⟩ σ H) (g : ∀ σ' H', Mid σ' H' → u ⟨nx, rt, bk, ct⟩ σ' H') : C8.tCut s1 u ⟨nx, rt, bk, ct⟩ σ H := ⟨Mid, h, g⟩
theorem r_next (h : nx σ H) : tNext ⟨nx, rt, bk, ct⟩ σ H := h
theorem r_asg (h : te σ H fun x H1 => g x σ H1 nx) : tAsg te g ⟨nx, rt, bk, ct⟩ σ H := h
theorem r_ret (h : te σ H rt) : tRet te ⟨nx, rt, bk, ct⟩ σ H := h
theorem r_drop (h : te σ H fun _ H1 => nx σ H1) : tDrop te ⟨nx, rt, bk, ct⟩ σ H := h
theorem r_ifS (h : t σ H fun b H1 => if b = true then s1 ⟨nx, rt, bk, ct⟩ σ H1 else s2 ⟨nx, rt, bk, ct⟩ σ H1) : tIfS t s1 s2 ⟨nx, rt, bk, ct⟩ σ H := h
theorem r_par {a b : Nat} (h : tA σ H fun vs H1 => ∃ v w, vs = [v, w] ∧ nx ((σ.set a (some v)).set b (some w)) H1) : tPar a b tA ⟨nx, rt, bk, ct⟩ σ H := h
theorem r_ex2 {f : V → V → Prop} (h : f x y) : ∃ v w, [x, y] = [v, w] ∧ f v w := ⟨x, y, rfl, h⟩
theorem r_brk (h : bk σ H) : tBreak ⟨nx, rt, bk, ct⟩ σ H := h
theorem r_cont (h : ct σ H) : tCont ⟨nx, rt, bk, ct⟩ σ H := h
theorem r_aug {n : Nat} {ti : TIp} (h : σ[n]? = some (some x)) (q : te σ H fun y H1 => ti x y H1 fun z H2 => nx (σ.set n (some z)) H2) : tAug n te ti ⟨nx, rt, bk, ct⟩ σ H := ⟨x, h, q⟩
theorem r_ipI {f : Int → Int → Int} (q : Q (.int (f i j)) H) : ipI f (.int i) (.int j) H Q := ⟨i, j, rfl, rfl, q⟩
theorem r_for {wi : TI} (h : wi σ H fun J H1 => ∃ W : Nat → Nat → L2.St → Hp → Prop, (∃ m, W 0 m σ H1) ∧ ∀ i m σ H, W i m σ H → (J.stop i H ∧ nx σ H) ∨ (J.go i H ∧ ∃ N : L2.St → Hp → Prop, (∀ σ' H', N σ' H' → ∃ m', m' < m ∧ W (i + 1) m' σ' H') ∧
    ∀ x H', J.yld i H x H' → g x σ H' fun σ2 H2 => s1 ⟨N, rt, nx, N⟩ σ2 H2)) : tFor wi g s1 ⟨nx, rt, bk, ct⟩ σ H := h
theorem r_augS {tget : V → V → Hp → VK → Prop} {ti : TIp} {ts : TSet} (h : ta σ H fun o H1 => tb σ H1 fun i H2 => tget o i H2 fun x H3 => te σ H3 fun y H4 => ti x y H4 fun z H5 => ts o i z H5 fun H6 => nx σ H6) : tAugS ta tb te tget ti ts ⟨nx, rt, bk, ct⟩ σ H := h
/-! ### targets -/
variable {Qs : L2.St → Hp → Prop}
theorem r_name {n : Nat} (q : Qs (σ.set n (some v)) H) : gName n v σ H Qs := q
theorem r_gtup {n : Nat} {p : Addr} {xs : List V} (h : SqT K H p xs) (hl : xs.length = n) (q : gs xs σ H Qs) : gTup K n gs (.ref p) σ H Qs := ⟨p, xs, rfl, h, hl, q⟩
theorem r_gcons {vs : List V} (q : g v σ H fun σ' H' => gs vs σ' H' Qs) : gCons g gs (v :: vs) σ H Qs := ⟨v, vs, rfl, q⟩
theorem r_gnil (q : Qs σ H) : gNil [] σ H Qs := ⟨rfl, q⟩
theorem r_gsub {ts : TSet} (h : te σ H fun o H1 => tv σ H1 fun i H2 => ts o i v H2 fun H3 => Qs σ H3) : gSub te tv ts v σ H Qs := h
theorem r_gslc {tl th : TO} (h : te σ H fun x H1 => tl σ H1 fun l H2 => th σ H2 fun u H3 => ∃ (p b : Addr) (xs ys : List V) (a c : Int), x = .ref p ∧ v = .ref b ∧ l = some a ∧ u = some c ∧ H3 p = some (.lst xs) ∧ H3 b = some (.lst ys) ∧ p ≠ b ∧ 0 ≤ a ∧ a ≤ c ∧ c ≤ xs.length ∧ xs.length + ys.length ≤ sizeLine ∧
    Qs σ (upd H3 p (.lst (xs.take a.toNat ++ ys ++ xs.drop c.toNat)))) : gSlc te tl th v σ H Qs := h
theorem r_setL {Qh : Hp → Prop} {p : Addr} {xs : List V} {n : Nat} (h : H p = some (.lst xs)) (hi : ixN xs.length i = some n) (q : Qh (upd H p (.lst (xs.set n v)))) : rSetL (.ref p) (.int i) v H Qh := ⟨p, xs, i, n, rfl, rfl, h, hi, q⟩
end
theorem szL {n : Nat} (h : Nat.ble n 16777216 = true) : n ≤ sizeLine := Nat.le_of_ble_eq_true h
theorem at_0 {x : V} {xs : List V} : atI (x :: xs) 0 = some x := at_of (j := 0) rfl rfl
theorem at_1 {x y : V} {xs : List V} : atI (x :: y :: xs) 1 = some y := at_of (j := 1) rfl rfl
theorem at_2 {x y z : V} {xs : List V} : atI (x :: y :: z :: xs) 2 = some z := at_of (j := 2) rfl rfl
theorem at_3 {x y z u : V} {xs : List V} : atI (x :: y :: z :: u :: xs) 3 = some u := at_of (j := 3) rfl rfl
theorem sq {K : PySem.W.Frag} {H : Hp} {p : Addr} {xs : List V} (h : H p = some (.lst xs)) : SqL K H p xs := .inl (.inl h)
theorem sqT {K : PySem.W.Frag} {H : Hp} {p : Addr} {xs : List V} (h : H p = some (.tup xs)) : SqT K H p xs := .inl (.inl h)

section
variable {w : World} {H : Hp} {σ : L2.St} {Q : VK} {te : TE} {tA : TA} {a : Addr} {k : Int} {S : Int → Bool} {n : Nat}
theorem r_set0 (q : ∀ p, H p = none → Q (.ref p) (upd H p (SetO w p (fun _ => false) 0))) : rSet0 w [] H Q := ⟨rfl, q⟩
theorem r_sin (h : H a = some (SetO w a S n)) (q : Q (.bl (S k)) H) : rSIn w (.int k) (.ref a) H Q := ⟨k, a, S, n, rfl, rfl, h, q⟩
theorem r_snotin (h : H a = some (SetO w a S n)) (q : Q (.bl (!S k)) H) : rSNotIn w (.int k) (.ref a) H Q := ⟨k, a, S, n, rfl, rfl, h, q⟩
theorem r_sadd0 (h : te σ H fun x H1 => (∃ a S n, x = V.ref a ∧ H1 a = some (SetO w a S n)) ∧ tA σ H1 fun xs H2 => rSAdd w x xs H2 Q) : tSAdd w te tA σ H Q := h
theorem r_sadd (h : H a = some (SetO w a S n)) (hn : n + 1 < 4096) (q : Q .non (upd H a (SetO w a (fun j => S j || decide (j = k)) (if S k = true then n else n + 1)))) : rSAdd w (.ref a) [.int k] H Q := ⟨a, k, S, n, rfl, rfl, h, hn, q⟩
end
/-! ### what a for walks -/
section
variable {K : PySem.W.Frag} {σ : L2.St} {H : Hp} {tA : TA} {te : TE} {R : L2.It → Hp → Prop}
theorem r_iEnum (h : tA σ H fun vs H1 => ∃ a xs, vs = [.ref a] ∧ SqL K H1 a xs ∧ R (Ite K a) H1) : iEnum K tA σ H R := h
theorem r_iList (h : te σ H fun x H1 => ∃ a, x = .ref a ∧ (∃ xs, SqL K H1 a xs) ∧ R (Itl K a) H1) : iList K te σ H R := h
theorem r_iTup (h : te σ H fun x H1 => ∃ a, x = .ref a ∧ (∃ xs, SqT K H1 a xs) ∧ R (Itt K a) H1) : iTup K te σ H R := h
theorem r_iRng1 (h : tA σ H fun vs H1 => ∃ j : Int, vs = [.int j] ∧ -(2 ^ 62) ≤ j ∧ j < 2 ^ 62 ∧ R (Itr 0 j.toNat) H1) : iRng1 tA σ H R := h
theorem r_iRng2 (h : tA σ H fun vs H1 => ∃ i j : Int, vs = [.int i, .int j] ∧ (-(2 ^ 62) ≤ i ∧ i < 2 ^ 62 ∧ -(2 ^ 62) ≤ j ∧ j < 2 ^ 62) ∧ R (Itr i (j - i).toNat) H1) : iRng2 tA σ H R := h
theorem r_iRng3 (h : tA σ H fun vs H1 => ∃ (i j c : Int) (n : Nat), vs = [.int i, .int j, .int c] ∧ RgC i j c n ∧ R (Itc i c n) H1) : iRng3 tA σ H R := h
theorem r_iZip (h : tA σ H fun vs H1 => ∃ a b xs ys, vs = [.ref a, .ref b] ∧ SqL K H1 a xs ∧ SqL K H1 b ys ∧ R (Itz K a b) H1) : iZip K tA σ H R := h
theorem r_lc {wi : TI} {g : TG} {tt : TT} {vs : List Nat} {Q : VK} (h : wi σ H fun J H1 => ∀ D, H1 D = none → ∃ W : Nat → Nat → Hp → Prop, (∃ m, W 0 m (upd H1 D (.lst []))) ∧ ∀ i m H, W i m H →
  (J.stop i H ∧ Q (.ref D) H) ∨ (J.go i H ∧ ∃ Nx : Hp → Prop, (∀ H', Nx H' → ∃ m', m' < m ∧ W (i + 1) m' H') ∧ ∀ x H', J.yld i H x H' → g x (wipe σ vs) H' fun σ2 H2 => wipe σ2 vs = wipe σ vs ∧ tt σ2 H2 fun b H3 =>
    if b = true then te σ2 H3 fun y H4 => ∃ acc, H4 D = some (.lst acc) ∧ acc.length < sizeLine ∧ Nx (upd H4 D (.lst (acc ++ [y]))) else Nx H3)) : tLc wi g tt te vs σ H Q := h
theorem r_lrg {tr : L2.St → Hp → (Int → Int → Hp → Prop) → Prop} {Q : VK} (h : tr σ H fun a b H1 => RgOk a b ∧ ∀ q, H1 q = none → Q (.ref q) (upd H1 q (.lst (rgV a b)))) : tLstRg tr σ H Q := h
theorem r_rg1 {Q : Int → Int → Hp → Prop} (h : te σ H fun x H1 => ∃ n, x = .int n ∧ Q 0 n H1) : tRg1 te σ H Q := h
theorem r_rg2 {tb : TE} {Q : Int → Int → Hp → Prop} (h : te σ H fun x H1 => tb σ H1 fun y H2 => ∃ i j, x = .int i ∧ y = .int j ∧ Q i j H2) : tRg2 te tb σ H Q := h
theorem r_l3 {Q : VK} (h : tA σ H fun vs H1 => ∃ (i j c : Int) (n : Nat), vs = [.int i, .int j, .int c] ∧ RgC i j c n ∧ n ≤ 2 ^ 24 ∧ ∀ q, H1 q = none → Q (.ref q) (upd H1 q (.lst (rg3V i c n)))) : tLst3 tA σ H Q := h
theorem r_revL {Q : VK} (h : te σ H fun x H1 => ∃ a xs, x = .ref a ∧ SqL K H1 a xs ∧ ∀ p, H1 p = none → Q (.ref p) (upd H1 p (.lst xs.reverse))) : tRevL K te σ H Q := h
theorem r_exr {a : Addr} {f : Addr → Prop} (h : f a) : ∃ b, V.ref a = .ref b ∧ f b := ⟨a, rfl, h⟩
end
section
variable {σ : L2.St} {H : Hp} {c : TT} {tb : TS} {nx bk ct : L2.St → Hp → Prop} {rt : VK}
theorem r_while (W : Nat → L2.St → Hp → Prop) (m : Nat) (h0 : W m σ H) (hs : ∀ m σ H, W m σ H → c σ H fun b H1 => if b = true then ∃ N : L2.St → Hp → Prop, (∀ σ' H', N σ' H' → ∃ m', m' < m ∧ W m' σ' H') ∧ tb ⟨N, rt, nx, N⟩ σ H1 else nx σ H1) : tWhile c tb ⟨nx, rt, bk, ct⟩ σ H :=
  ⟨W, ⟨m, h0⟩, hs⟩
theorem r_turn {W : Nat → L2.St → Hp → Prop} {m : Nat} (h : tb ⟨fun σ' H' => ∃ m', m' < m ∧ W m' σ' H', rt, nx, fun σ' H' => ∃ m', m' < m ∧ W m' σ' H'⟩ σ H) : ∃ N : L2.St → Hp → Prop, (∀ σ' H', N σ' H' → ∃ m', m' < m ∧ W m' σ' H') ∧ tb ⟨N, rt, nx, N⟩ σ H :=
  ⟨_, fun _ _ h => h, h⟩
theorem r_itD {p : Prop} [Decidable p] {A B : Prop} (hp : p) (h : A) : if decide p = true then A else B := by rw [decide_eq_true hp]; exact h
theorem r_itDF {p : Prop} [Decidable p] {A B : Prop} (hp : ¬p) (h : B) : if decide p = true then A else B := by rw [decide_eq_false hp]; exact h
theorem r_itN {p : Prop} [Decidable p] {A B : Prop} (hp : ¬p) (h : A) : if (!decide p) = true then A else B := by rw [decide_eq_false hp]; exact h
theorem r_itNF {p : Prop} [Decidable p] {A B : Prop} (hp : p) (h : B) : if (!decide p) = true then A else B := by rw [decide_eq_true hp]; exact h
theorem r_popAt {l : Addr} {xs : List V} {i : Int} {k : Nat} {y : V} {Q : VK} (h : H l = some (.lst xs)) (e : i = (k : Int)) (hk : xs[k]? = some y) (hz : k < 2 ^ 63) (q : Q y (upd H l (.lst (xs.eraseIdx k)))) : rPopAt (.ref l) [.int i] H Q := by
  subst e
  have hl : k < xs.length := (List.getElem?_eq_some_iff.mp hk).1
  exact ⟨l, xs, k, k, y, rfl, rfl, h, by omega, by omega, seqIndex_of (by omega) (by omega), hk, q⟩
end
/-! ### what stands in a heap -/
/-- all but r stands as it was -/
def Sx (r : Addr) (H H' : Hp) : Prop := ∀ b o, b ≠ r → H b = some o → H' b = some o
section
variable {H H' : Hp} {a b r : Addr} {o u : HO}
theorem upd_old (np : H a = none) (h : H b = some u) : upd H a o b = some u := (upd_ne (ne_of_none h np)).trans h
theorem upd_to (n : b ≠ a) (h : H b = some u) : upd H a o b = some u := (upd_ne n).trans h
theorem same_to (s : Same H H') (h : H b = some u) : H' b = some u := s b u h
theorem sx_to (s : Sx r H H') (n : b ≠ r) (h : H b = some u) : H' b = some u := s b u n h
theorem sx_of (s : Same H H') : Sx r H H' := fun b o _ h => s b o h
theorem same_new (np : H a = none) : Same H (upd H a o) := fun b u h => upd_old np h
theorem same_old {H0 : Hp} (s : Same H0 H) (n : H0 a = none) : Same H0 (upd H a o) := fun b u h => upd_to (ne_of_none h n) (s b u h)
theorem Sx.refl : Sx r H H := fun _ _ _ h => h
theorem Sx.trans {H1 : Hp} (s : Sx r H H1) (t : Sx r H1 H') : Sx r H H' := fun b o n h => t b o n (s b o n h)
theorem Sx.put : Sx r H (L2.upd H r o) := fun b u n h => upd_to n h
theorem Sx.new (np : H a = none) : Sx r H (L2.upd H a o) := fun b u _ h => upd_old np h
theorem Sx.old {H0 : Hp} (s : Sx r H0 H) (n : H0 a = none) : Sx r H0 (L2.upd H a o) := fun b u hb h => upd_to (ne_of_none h n) (s b u hb h)
theorem Sx.same {H1 : Hp} (s : Sx r H H1) (t : Same H1 H') : Sx r H H' := s.trans (sx_of t)
theorem Sx.free (s : Sx r H H') (hr : H' r = some u) (h : H' a = none) : H a = none := by
  cases q : H a with
  | none => rfl
  | some o =>
    by_cases e : a = r
    · subst e; rw [hr] at h; cases h
    · rw [s a o e q] at h; cases h
end
end Xk
/-- one step whose answer is known -/
local macro_rules | `(tactic| fail "one") => `(tactic| with_reducible first
  | refine Xk.r_c ?_ | refine Xk.r_op ?_ | refine Xk.r_un ?_ | refine Xk.r_I0 ?_ | refine Xk.r_U ?_ | refine Xk.r_nil ?_ | refine Xk.r_cons ?_ | refine Xk.r_lst ?_ | refine Xk.r_tup ?_
  | refine Xk.r_call ?_ | refine Xk.r_callK ?_ | refine Xk.r_cb ?_ | refine Xk.r_ckw ?_ | refine Xk.r_sl ?_ | refine Xk.r_part ?_ | refine Xk.r_nopart ?_ | refine Xk.r_exi ?_ | refine Xk.r_exb ?_ | refine Xk.r_bm ?_ | refine Xk.r_bm0 ?_
  | refine Xk.r_if ?_ | refine Xk.r_andV ?_ | refine Xk.r_orV ?_ | refine Xk.r_notV ?_ | refine Xk.r_eqI ?_ | refine Xk.r_neI ?_ | refine Xk.r_eqS ?_ | refine Xk.r_neS ?_
  | refine Xk.r_test ?_ | refine Xk.r_tB ?_ | refine Xk.r_tand ?_ | refine Xk.r_tor ?_ | refine Xk.r_tnot ?_ | refine Xk.r_yes ?_ | refine Xk.r_itT ?_ | refine Xk.r_itF ?_ | refine Xk.r_notT ?_ | refine Xk.r_notF ?_
  | refine Xk.r_seq ?_ | refine Xk.r_next ?_ | refine Xk.r_asg ?_ | refine Xk.r_ret ?_ | refine Xk.r_drop ?_ | refine Xk.r_ifS ?_ | refine Xk.r_par ?_ | refine Xk.r_ex2 ?_ | refine Xk.r_brk ?_ | refine Xk.r_cont ?_ | refine Xk.r_ipI ?_ | refine Xk.r_for ?_
  | refine Xk.r_augS ?_ | refine Xk.r_sadd0 ?_ | refine Xk.r_iEnum ?_ | refine Xk.r_iList ?_ | refine Xk.r_iTup ?_ | refine Xk.r_iRng1 ?_ | refine Xk.r_iRng2 ?_ | refine Xk.r_iRng3 ?_ | refine Xk.r_iZip ?_ | refine Xk.r_lc ?_ | refine Xk.r_lrg ?_ | refine Xk.r_rg1 ?_ | refine Xk.r_rg2 ?_ | refine Xk.r_l3 ?_ | refine Xk.r_revL ?_ | refine Xk.r_exr ?_
  | refine Xk.r_name ?_ | refine Xk.r_gcons ?_ | refine Xk.r_gnil ?_ | refine Xk.r_gsub ?_ | refine Xk.r_gslc ?_)
local macro_rules | `(tactic| fail "ne") => `(tactic| first | assumption | (apply Ne.symm; assumption) | (exact L2.ne_of_none (by assumption) (by assumption)) | (apply Ne.symm; exact L2.ne_of_none (by assumption) (by assumption)))
/-- what stands at an address -/
local macro_rules | `(tactic| fail "hp") => `(tactic| with_reducible first
  | assumption | exact L2.upd_same
  | ((refine' Xk.upd_old ?np ?_); (case np => assumption); fail "hp")
  | ((refine' Xk.same_to ?hs ?_); (case hs => assumption); fail "hp")
  | ((refine' Xk.sx_to ?hs ?hn ?_); (case hs => assumption); (case hn => fail "ne"); fail "hp")
  | ((refine' Xk.upd_to ?hn ?_); (case hn => fail "ne"); fail "hp"))
local macro_rules | `(tactic| fail "sq") => `(tactic| ((with_reducible show L2.SqL _ _ _ _); first | (with_reducible assumption) | exact Xk.sq (by fail "hp") | (with_reducible exact L2.Same.seq (by assumption) (by assumption))))
local macro_rules | `(tactic| fail "sd") => `(tactic| first | assumption | omega | decide)
local macro_rules | `(tactic| fail "at") => `(tactic| first
  | (with_reducible exact Xk.at_0) | (with_reducible exact Xk.at_1) | (with_reducible exact Xk.at_2) | (with_reducible exact Xk.at_3)
  | ((with_reducible show L2.atI (List.set (_ :: _) _ _) _ = _); exact rfl))
local macro_rules | `(tactic| fail "ix") => `(tactic| ((with_reducible show L2.ixN (List.length (_ :: _)) _ = _); exact rfl))
local macro_rules | `(tactic| fail "two") => `(tactic| first
  | ((with_reducible refine' Xk.r_var ?hv ?_); (case hv => exact rfl))
  | ((with_reducible refine' Xk.r_aug ?hv ?_); (case hv => exact rfl))
  | ((with_reducible refine' Xk.r_ixL ?hv ?hw ?_); (case hv => fail "sq"); (case hw => fail "at"))
  | ((with_reducible refine' Xk.r_setL ?hv ?hw ?_); (case hv => fail "hp"); (case hw => fail "ix"))
  | ((with_reducible refine' Xk.r_slL ?hv ?_); (case hv => fail "sq"))
  | ((with_reducible refine' Xk.r_gtup ?hv ?hw ?_); (case hv => exact Xk.sqT (by fail "hp")); (case hw => exact rfl))
  | ((with_reducible refine' ⟨Xk.ty_list (K := _) (xs := _) ?hv, ?_⟩); (case hv => fail "sq"))
  | ((with_reducible refine' Xk.r_append ?hv ?hw ?_); (case hv => fail "hp"); (case hw => fail "sd"))
  | ((with_reducible refine' Xk.r_I (C := fun _ j => 0 < j) ?hv ?_); (case hv => (first | omega | (show (0 : Int) < _; omega) | decide)))
  | ((with_reducible refine' Xk.r_len ?hv ?_); (case hv => fail "sq"))
  | ((with_reducible refine' Xk.r_listOf ?hv ?_); (case hv => fail "sq"))
  | ((with_reducible refine' Xk.r_I (C := Xk.CPowW) ?hv ?_); (case hv => exact ⟨by decide, by decide⟩))
  | (with_reducible refine ⟨Xk.szL (by with_unfolding_all rfl), ?_⟩)
  | ((with_reducible refine' ⟨_, _, rfl, ?hv, ?_⟩); (case hv => ((with_reducible show L2.SqL _ _ _ _); fail "sq")))
  | ((with_reducible refine' ⟨⟨_, ?hv⟩, ?_⟩); (case hv => fail "sq"))
  | (with_reducible refine Or.inl ⟨_, rfl, ?_⟩) | (with_reducible refine Or.inr ⟨_, rfl, ?_⟩)
  | (with_reducible refine ⟨_, _, rfl, rfl, ?_⟩) | (with_reducible refine ⟨_, rfl, ?_⟩) | (with_reducible refine ⟨_, _, rfl, ?_⟩))
local macro_rules | `(tactic| fail "g") => `(tactic| repeat (first | fail "one" | fail "two"))

set_option Elab.async false
set_option linter.all false
set_option maxRecDepth 100000
namespace Xk
open PySem PySem.Spec PyProof.Rows L2
/-! ### slices by numbers -/
theorem cut_from {xs : List V} {z : Int} {a : Nat} (h : z = (a : Int)) : cutV xs (some z) none = xs.drop a := by
  subst h
  unfold cutV
  rw [show HT.sIx xs.length 0 (some (a : Int)) = min a xs.length from HT.sIx_nat xs.length 0 a, HT.sIx_none]
  by_cases q : a ≤ xs.length
  · rw [Nat.min_eq_left q]; exact List.take_of_length_le (by rw [List.length_drop]; omega)
  · rw [Nat.min_eq_right (by omega), List.drop_of_length_le (by omega), List.drop_of_length_le (by omega)]; simp
theorem cut_to {xs : List V} {z : Int} {b : Nat} (h : z = (b : Int)) : cutV xs none (some z) = xs.take b := by
  subst h
  unfold cutV
  rw [show HT.sIx xs.length xs.length (some (b : Int)) = min b xs.length from HT.sIx_nat xs.length xs.length b, HT.sIx_none]
  show (xs.take (min b xs.length - 0)) = _
  rw [Nat.sub_zero]
  by_cases q : b ≤ xs.length
  · rw [Nat.min_eq_left q]
  · rw [Nat.min_eq_right (by omega), List.take_of_length_le (by omega), List.take_of_length_le (by omega)]
theorem cut_mid {xs : List V} {z y : Int} {a b : Nat} (h : z = (a : Int)) (g : y = (b : Int)) (hb : b ≤ xs.length) : cutV xs (some z) (some y) = (xs.drop a).take (b - a) := by
  subst h; subst g
  unfold cutV
  rw [show HT.sIx xs.length 0 (some (a : Int)) = min a xs.length from HT.sIx_nat xs.length 0 a, show HT.sIx xs.length xs.length (some (b : Int)) = min b xs.length from HT.sIx_nat xs.length xs.length b, Nat.min_eq_left hb]
  by_cases q : a ≤ xs.length
  · rw [Nat.min_eq_left q]
  · rw [Nat.min_eq_right (by omega), show b - xs.length = 0 by omega, show b - a = 0 by omega]; rfl
theorem map_drop' {α β : Type} (f : α → β) (l : List α) (n : Nat) : (l.map f).drop n = (l.drop n).map f := by simp
theorem at_map {ns : List Int} {z : Int} {j : Nat} (e : z = (j : Int)) (h : j < ns.length) : atI (ns.map V.int) z = some (.int ns[j]) :=
  at_of e (by simp [h])
theorem ix_of {n j : Nat} {z : Int} (e : z = (j : Int)) (h : j < n) : ixN n z = some j := by
  subst e; unfold ixN; rw [if_pos (by omega), if_pos (by omega)]; simp
theorem map_set' (ns : List Int) (j : Nat) (x : Int) : (ns.map V.int).set j (V.int x) = (ns.set j x).map V.int := by simp
theorem map_snoc (ns : List Int) (x : Int) : ns.map V.int ++ [V.int x] = (ns ++ [x]).map V.int := by simp
theorem size_lt {n : Nat} (h : n < 16777216) : n < sizeLine := h
theorem size_le {n : Nat} (h : n ≤ 16777216) : n ≤ sizeLine := h

/-! ### comprehensions whose turns leave what stood -/
section
variable {J : It} {n : Nat} {G : Hp → Prop} {Y : Nat → Hp → V → Hp → Prop}
theorem forI (w : Walk J n G Y) {g : TG} {tb : TS} {nx : L2.St → Hp → Prop} {rt : VK} {σ : L2.St} {H : Hp} (Pv : Nat → L2.St → Hp → Prop) (h0 : Pv 0 σ H) (hG : ∀ i σ H, i ≤ n → Pv i σ H → G H)
    (hs : ∀ i x σ H H', i < n → Pv i σ H → Y i H x H' → g x σ H' fun σ2 H2 => tb ⟨Pv (i + 1), rt, nx, Pv (i + 1)⟩ σ2 H2) (hd : ∀ σ H, Pv n σ H → nx σ H) :
    ∃ W : Nat → Nat → L2.St → Hp → Prop, (∃ m, W 0 m σ H) ∧ ∀ i m σ H, W i m σ H →
      (J.stop i H ∧ nx σ H) ∨ (J.go i H ∧ ∃ N : L2.St → Hp → Prop, (∀ σ' H', N σ' H' → ∃ m', m' < m ∧ W (i + 1) m' σ' H') ∧ ∀ x H', J.yld i H x H' → g x σ H' fun σ2 H2 => tb ⟨N, rt, nx, N⟩ σ2 H2) :=
  for_it (D := ⟨nx, rt, fun _ _ => False, fun _ _ => False⟩) w Pv h0 hG hs hd
theorem forA {xs : List V} (w : Walk J xs.length G (YAt xs)) {g : TG} {tb : TS} {nx : L2.St → Hp → Prop} {rt : VK} {σ : L2.St} {H : Hp} (Pv : Nat → L2.St → Hp → Prop) (h0 : Pv 0 σ H) (hG : ∀ i σ H, i ≤ xs.length → Pv i σ H → G H)
    (hs : ∀ i σ H (hi : i < xs.length), Pv i σ H → g xs[i] σ H fun σ2 H2 => tb ⟨Pv (i + 1), rt, nx, Pv (i + 1)⟩ σ2 H2) (hd : ∀ σ H, Pv xs.length σ H → nx σ H) :
    ∃ W : Nat → Nat → L2.St → Hp → Prop, (∃ m, W 0 m σ H) ∧ ∀ i m σ H, W i m σ H →
      (J.stop i H ∧ nx σ H) ∨ (J.go i H ∧ ∃ N : L2.St → Hp → Prop, (∀ σ' H', N σ' H' → ∃ m', m' < m ∧ W (i + 1) m' σ' H') ∧ ∀ x H', J.yld i H x H' → g x σ H' fun σ2 H2 => tb ⟨N, rt, nx, N⟩ σ2 H2) :=
  forI w Pv h0 hG (fun i x σ H H' hi p y => by
    obtain ⟨rfl, e⟩ := y
    rw [List.getElem?_eq_getElem hi] at e
    cases e
    exact hs i σ H' hi p) hd
theorem forAI {ns : List Int} (w : Walk J (ns.map V.int).length G (YAt (ns.map V.int))) {g : TG} {tb : TS} {nx : L2.St → Hp → Prop} {rt : VK} {σ : L2.St} {H : Hp} (Pv : Nat → L2.St → Hp → Prop) (h0 : Pv 0 σ H) (hG : ∀ i σ H, i ≤ (ns.map V.int).length → Pv i σ H → G H)
    (hs : ∀ i σ H (hi : i < ns.length), Pv i σ H → g (.int ns[i]) σ H fun σ2 H2 => tb ⟨Pv (i + 1), rt, nx, Pv (i + 1)⟩ σ2 H2) (hd : ∀ σ H, Pv (ns.map V.int).length σ H → nx σ H) :
    ∃ W : Nat → Nat → L2.St → Hp → Prop, (∃ m, W 0 m σ H) ∧ ∀ i m σ H, W i m σ H →
      (J.stop i H ∧ nx σ H) ∨ (J.go i H ∧ ∃ N : L2.St → Hp → Prop, (∀ σ' H', N σ' H' → ∃ m', m' < m ∧ W (i + 1) m' σ' H') ∧ ∀ x H', J.yld i H x H' → g x σ H' fun σ2 H2 => tb ⟨N, rt, nx, N⟩ σ2 H2) :=
  forI w Pv h0 hG (fun i x σ H H' hi p y => by
    obtain ⟨rfl, e⟩ := y
    have hi' : i < ns.length := by simpa using hi
    rw [List.getElem?_map, List.getElem?_eq_getElem hi'] at e
    cases e
    exact hs i σ H' hi' p) hd
theorem forF {f : Nat → V} (w : Walk J n G (YFn f)) {g : TG} {tb : TS} {nx : L2.St → Hp → Prop} {rt : VK} {σ : L2.St} {H : Hp} (Pv : Nat → L2.St → Hp → Prop) (h0 : Pv 0 σ H) (hG : ∀ i σ H, i ≤ n → Pv i σ H → G H)
    (hs : ∀ i σ H, i < n → Pv i σ H → g (f i) σ H fun σ2 H2 => tb ⟨Pv (i + 1), rt, nx, Pv (i + 1)⟩ σ2 H2) (hd : ∀ σ H, Pv n σ H → nx σ H) :
    ∃ W : Nat → Nat → L2.St → Hp → Prop, (∃ m, W 0 m σ H) ∧ ∀ i m σ H, W i m σ H →
      (J.stop i H ∧ nx σ H) ∨ (J.go i H ∧ ∃ N : L2.St → Hp → Prop, (∀ σ' H', N σ' H' → ∃ m', m' < m ∧ W (i + 1) m' σ' H') ∧ ∀ x H', J.yld i H x H' → g x σ H' fun σ2 H2 => tb ⟨N, rt, nx, N⟩ σ2 H2) :=
  forI w Pv h0 hG (fun i x σ H H' hi p y => by
    obtain ⟨rfl, rfl⟩ := y
    exact hs i σ H' hi p) hd
theorem forP {f1 f2 : Nat → Option V} (w : Walk J n G (YPair f1 f2)) {g : TG} {tb : TS} {nx : L2.St → Hp → Prop} {rt : VK} {σ : L2.St} {H : Hp} (Pv : Nat → L2.St → Hp → Prop) (h0 : Pv 0 σ H) (hG : ∀ i σ H, i ≤ n → Pv i σ H → G H)
    (hs : ∀ i σ H T x y, i < n → Pv i σ H → f1 i = some x → f2 i = some y → H T = none → g (.ref T) σ (upd H T (.tup [x, y])) fun σ2 H2 => tb ⟨Pv (i + 1), rt, nx, Pv (i + 1)⟩ σ2 H2) (hd : ∀ σ H, Pv n σ H → nx σ H) :
    ∃ W : Nat → Nat → L2.St → Hp → Prop, (∃ m, W 0 m σ H) ∧ ∀ i m σ H, W i m σ H →
      (J.stop i H ∧ nx σ H) ∨ (J.go i H ∧ ∃ N : L2.St → Hp → Prop, (∀ σ' H', N σ' H' → ∃ m', m' < m ∧ W (i + 1) m' σ' H') ∧ ∀ x H', J.yld i H x H' → g x σ H' fun σ2 H2 => tb ⟨N, rt, nx, N⟩ σ2 H2) :=
  forI w Pv h0 hG (fun i x σ H H' hi p y => by
    obtain ⟨T, x, y, rfl, nT, rfl, e1, e2⟩ := y
    exact hs i σ H T x y hi p e1 e2 nT) hd
theorem forEI {ns : List Int} (w : Walk J (ns.map V.int).length G (YPair (fun i => some (.int (i : Nat))) (fun i => (ns.map V.int)[i]?))) {g : TG} {tb : TS} {nx : L2.St → Hp → Prop} {rt : VK} {σ : L2.St} {H : Hp} (Pv : Nat → L2.St → Hp → Prop) (h0 : Pv 0 σ H) (hG : ∀ i σ H, i ≤ (ns.map V.int).length → Pv i σ H → G H)
    (hs : ∀ i σ H T (hi : i < ns.length), Pv i σ H → H T = none → g (.ref T) σ (upd H T (.tup [.int (i : Nat), .int ns[i]])) fun σ2 H2 => tb ⟨Pv (i + 1), rt, nx, Pv (i + 1)⟩ σ2 H2) (hd : ∀ σ H, Pv (ns.map V.int).length σ H → nx σ H) :
    ∃ W : Nat → Nat → L2.St → Hp → Prop, (∃ m, W 0 m σ H) ∧ ∀ i m σ H, W i m σ H →
      (J.stop i H ∧ nx σ H) ∨ (J.go i H ∧ ∃ N : L2.St → Hp → Prop, (∀ σ' H', N σ' H' → ∃ m', m' < m ∧ W (i + 1) m' σ' H') ∧ ∀ x H', J.yld i H x H' → g x σ H' fun σ2 H2 => tb ⟨N, rt, nx, N⟩ σ2 H2) :=
  forI w Pv h0 hG (fun i x σ H H' hi p y => by
    obtain ⟨T, x, y, rfl, nT, rfl, e1, e2⟩ := y
    have hi' : i < ns.length := by simpa using hi
    cases e1
    simp only [List.getElem?_map, List.getElem?_eq_getElem hi'] at e2
    cases e2
    exact hs i σ H T hi' p nT) hd
theorem lc_same (w : Walk J n G Y) {g : TG} {tt : TT} {te : TE} {vs : List Nat} {σ : L2.St} {H0 H1 : Hp} {D : Addr} {Qd : Hp → Prop} (acc : Nat → List V) (hD : H1 D = none) (h01 : Same H0 H1) (a0 : acc 0 = [])
    (hG : ∀ H, Same H0 H → G H)
    (hs : ∀ i x H H', i < n → Same H0 H ∧ H D = some (.lst (acc i)) → Y i H x H' → g x (wipe σ vs) H' fun σ2 H2 => wipe σ2 vs = wipe σ vs ∧ tt σ2 H2 fun b H3 =>
      if b = true then te σ2 H3 fun y H4 => ∃ l, H4 D = some (.lst l) ∧ l.length < sizeLine ∧ Same H0 (upd H4 D (.lst (l ++ [y]))) ∧ (upd H4 D (.lst (l ++ [y]))) D = some (.lst (acc (i + 1))) else Same H0 H3 ∧ H3 D = some (.lst (acc (i + 1))))
    (hd : ∀ H, Same H0 H → H D = some (.lst (acc n)) → Qd H) :
    ∃ W : Nat → Nat → Hp → Prop, (∃ m, W 0 m (upd H1 D (.lst []))) ∧ ∀ i m H, W i m H →
      (J.stop i H ∧ Qd H) ∨ (J.go i H ∧ ∃ Nx : Hp → Prop, (∀ H', Nx H' → ∃ m', m' < m ∧ W (i + 1) m' H') ∧ ∀ x H', J.yld i H x H' → g x (wipe σ vs) H' fun σ2 H2 => wipe σ2 vs = wipe σ vs ∧ tt σ2 H2 fun b H3 =>
        if b = true then te σ2 H3 fun y H4 => ∃ acc, H4 D = some (.lst acc) ∧ acc.length < sizeLine ∧ Nx (upd H4 D (.lst (acc ++ [y]))) else Nx H3) :=
  lc_it w (fun i H => Same H0 H ∧ H D = some (.lst (acc i))) ⟨same_old h01 (h01.free hD), by rw [a0]; exact upd_same⟩ (fun i H _ p => hG H p.1) hs (fun H p => hd H p.1 p.2)
theorem lc_sameAI {ns : List Int} (w : Walk J (ns.map V.int).length G (YAt (ns.map V.int))) {g : TG} {tt : TT} {te : TE} {vs : List Nat} {σ : L2.St} {H0 H1 : Hp} {D : Addr} {Qd : Hp → Prop} (acc : Nat → List V) (hD : H1 D = none) (h01 : Same H0 H1) (a0 : acc 0 = [])
    (hG : ∀ H, Same H0 H → G H)
    (hs : ∀ i H (hi : i < ns.length), Same H0 H ∧ H D = some (.lst (acc i)) → g (.int ns[i]) (wipe σ vs) H fun σ2 H2 => wipe σ2 vs = wipe σ vs ∧ tt σ2 H2 fun b H3 =>
      if b = true then te σ2 H3 fun y H4 => ∃ l, H4 D = some (.lst l) ∧ l.length < sizeLine ∧ Same H0 (upd H4 D (.lst (l ++ [y]))) ∧ (upd H4 D (.lst (l ++ [y]))) D = some (.lst (acc (i + 1))) else Same H0 H3 ∧ H3 D = some (.lst (acc (i + 1))))
    (hd : ∀ H, Same H0 H → H D = some (.lst (acc ns.length)) → Qd H) :
    ∃ W : Nat → Nat → Hp → Prop, (∃ m, W 0 m (upd H1 D (.lst []))) ∧ ∀ i m H, W i m H →
      (J.stop i H ∧ Qd H) ∨ (J.go i H ∧ ∃ Nx : Hp → Prop, (∀ H', Nx H' → ∃ m', m' < m ∧ W (i + 1) m' H') ∧ ∀ x H', J.yld i H x H' → g x (wipe σ vs) H' fun σ2 H2 => wipe σ2 vs = wipe σ vs ∧ tt σ2 H2 fun b H3 =>
        if b = true then te σ2 H3 fun y H4 => ∃ acc, H4 D = some (.lst acc) ∧ acc.length < sizeLine ∧ Nx (upd H4 D (.lst (acc ++ [y]))) else Nx H3) :=
  lc_same w acc hD h01 a0 hG (fun i x H H' hi p y => by
    obtain ⟨rfl, e⟩ := y
    have hi' : i < ns.length := by simpa using hi
    rw [List.getElem?_map, List.getElem?_eq_getElem hi'] at e
    cases e
    exact hs i H' hi' p) (fun H p q => hd H p (by simpa using q))
theorem lc_sameEI {ns : List Int} (w : Walk J (ns.map V.int).length G (YPair (fun i => some (.int (i : Nat))) (fun i => (ns.map V.int)[i]?))) {g : TG} {tt : TT} {te : TE} {vs : List Nat} {σ : L2.St} {H0 H1 : Hp} {D : Addr} {Qd : Hp → Prop} (acc : Nat → List V) (hD : H1 D = none) (h01 : Same H0 H1) (a0 : acc 0 = [])
    (hG : ∀ H, Same H0 H → G H)
    (hs : ∀ i H T (hi : i < ns.length), Same H0 H ∧ H D = some (.lst (acc i)) → H T = none → g (.ref T) (wipe σ vs) (upd H T (.tup [.int (i : Nat), .int ns[i]])) fun σ2 H2 => wipe σ2 vs = wipe σ vs ∧ tt σ2 H2 fun b H3 =>
      if b = true then te σ2 H3 fun y H4 => ∃ l, H4 D = some (.lst l) ∧ l.length < sizeLine ∧ Same H0 (upd H4 D (.lst (l ++ [y]))) ∧ (upd H4 D (.lst (l ++ [y]))) D = some (.lst (acc (i + 1))) else Same H0 H3 ∧ H3 D = some (.lst (acc (i + 1))))
    (hd : ∀ H, Same H0 H → H D = some (.lst (acc ns.length)) → Qd H) :
    ∃ W : Nat → Nat → Hp → Prop, (∃ m, W 0 m (upd H1 D (.lst []))) ∧ ∀ i m H, W i m H →
      (J.stop i H ∧ Qd H) ∨ (J.go i H ∧ ∃ Nx : Hp → Prop, (∀ H', Nx H' → ∃ m', m' < m ∧ W (i + 1) m' H') ∧ ∀ x H', J.yld i H x H' → g x (wipe σ vs) H' fun σ2 H2 => wipe σ2 vs = wipe σ vs ∧ tt σ2 H2 fun b H3 =>
        if b = true then te σ2 H3 fun y H4 => ∃ acc, H4 D = some (.lst acc) ∧ acc.length < sizeLine ∧ Nx (upd H4 D (.lst (acc ++ [y]))) else Nx H3) :=
  lc_same w acc hD h01 a0 hG (fun i x H H' hi p y => by
    obtain ⟨T, x, y, rfl, nT, rfl, e1, e2⟩ := y
    have hi' : i < ns.length := by simpa using hi
    cases e1
    simp only [List.getElem?_map, List.getElem?_eq_getElem hi'] at e2
    cases e2
    exact hs i H T hi' p nT) (fun H p q => hd H p (by simpa using q))
theorem lc_sameF {n : Nat} {f : Nat → V} (w : Walk J n G (YFn f)) {g : TG} {tt : TT} {te : TE} {vs : List Nat} {σ : L2.St} {H0 H1 : Hp} {D : Addr} {Qd : Hp → Prop} (acc : Nat → List V) (hD : H1 D = none) (h01 : Same H0 H1) (a0 : acc 0 = [])
    (hG : ∀ H, Same H0 H → G H)
    (hs : ∀ i H, i < n → Same H0 H ∧ H D = some (.lst (acc i)) → g (f i) (wipe σ vs) H fun σ2 H2 => wipe σ2 vs = wipe σ vs ∧ tt σ2 H2 fun b H3 =>
      if b = true then te σ2 H3 fun y H4 => ∃ l, H4 D = some (.lst l) ∧ l.length < sizeLine ∧ Same H0 (upd H4 D (.lst (l ++ [y]))) ∧ (upd H4 D (.lst (l ++ [y]))) D = some (.lst (acc (i + 1))) else Same H0 H3 ∧ H3 D = some (.lst (acc (i + 1))))
    (hd : ∀ H, Same H0 H → H D = some (.lst (acc n)) → Qd H) :
    ∃ W : Nat → Nat → Hp → Prop, (∃ m, W 0 m (upd H1 D (.lst []))) ∧ ∀ i m H, W i m H →
      (J.stop i H ∧ Qd H) ∨ (J.go i H ∧ ∃ Nx : Hp → Prop, (∀ H', Nx H' → ∃ m', m' < m ∧ W (i + 1) m' H') ∧ ∀ x H', J.yld i H x H' → g x (wipe σ vs) H' fun σ2 H2 => wipe σ2 vs = wipe σ vs ∧ tt σ2 H2 fun b H3 =>
        if b = true then te σ2 H3 fun y H4 => ∃ acc, H4 D = some (.lst acc) ∧ acc.length < sizeLine ∧ Nx (upd H4 D (.lst (acc ++ [y]))) else Nx H3) :=
  lc_same w acc hD h01 a0 hG (fun i x H H' hi p y => by
    obtain ⟨rfl, rfl⟩ := y
    exact hs i H' hi p) hd
theorem lc_add {H0 H H4 : Hp} {D : Addr} {a a' : List V} {y : V} (p : Same H0 H ∧ H D = some (.lst a)) (s : Same H H4) (hD : H0 D = none) (e : a' = a ++ [y]) (hz : a.length < sizeLine) :
    ∃ l, H4 D = some (.lst l) ∧ l.length < sizeLine ∧ Same H0 (upd H4 D (.lst (l ++ [y]))) ∧ (upd H4 D (.lst (l ++ [y]))) D = some (.lst a') :=
  ⟨a, s _ _ p.2, hz, same_old (p.1.trans s) hD, by rw [e]; exact upd_same⟩
theorem lc_skip {H0 H H4 : Hp} {D : Addr} {a a' : List V} (p : Same H0 H ∧ H D = some (.lst a)) (s : Same H H4) (e : a' = a) : Same H0 H4 ∧ H4 D = some (.lst a') := ⟨p.1.trans s, by rw [e]; exact s _ _ p.2⟩
theorem take_one {α : Type} {l : List α} {i : Nat} (hi : i < l.length) : l.take (i + 1) = l.take i ++ [l[i]] := by rw [List.take_add_one, List.getElem?_eq_getElem hi]; rfl
theorem acc_filtT {l : List Int} {f : Int → Bool} {i : Nat} (hi : i < l.length) (h : f l[i] = true) : ((l.take (i + 1)).filter f).map V.int = ((l.take i).filter f).map V.int ++ [.int l[i]] := by
  rw [take_one hi, List.filter_append, List.map_append]; simp [h]
theorem acc_filtF {l : List Int} {f : Int → Bool} {i : Nat} (hi : i < l.length) (h : f l[i] = false) : ((l.take (i + 1)).filter f).map V.int = ((l.take i).filter f).map V.int := by
  rw [take_one hi, List.filter_append, List.map_append]; simp [h]
theorem filt_len {l : List Int} {f : Int → Bool} {i : Nat} (h : l.length ≤ 1000000) : (((l.take i).filter f).map V.int).length < sizeLine := by
  rw [List.length_map]
  refine Nat.lt_of_le_of_lt (Nat.le_trans (List.length_filter_le _ _) (List.length_take_le' _ _)) (size_lt (by omega))
end
theorem erase_map {α β : Type} (f : α → β) : ∀ (l : List α) (j : Nat), (l.map f).eraseIdx j = (l.eraseIdx j).map f
  | [], _ => rfl
  | x :: r, 0 => rfl
  | x :: r, j + 1 => congrArg (f x :: ·) (erase_map f r j)
theorem erase_perm {α : Type} : ∀ (l : List α) (j : Nat) (h : j < l.length), (l[j] :: l.eraseIdx j).Perm l
  | x :: r, 0, _ => List.Perm.refl _
  | x :: r, j + 1, h => (List.Perm.swap x (r[j]'(Nat.lt_of_succ_lt_succ h)) (r.eraseIdx j)).trans ((erase_perm r j (Nat.lt_of_succ_lt_succ h)).cons x)
end Xk

set_option Elab.async false
set_option linter.all false
set_option maxRecDepth 100000
namespace Xk
open PySem PySem.Spec PyProof.Rows L2
/-! ### data -/
abbrev dI (ns : List Int) : PyData := .list (ns.map PyData.int)
section
variable {K : PySem.W.Frag} {H H' : Hp}
theorem dp_ints : ∀ ns : List Int, DpAll K H (ns.map V.int) (ns.map PyData.int)
  | [] => .nil
  | i :: r => .cons (.int i) (dp_ints r)
theorem dp_lst {a : Addr} {ns : List Int} (h : SqL K H a (ns.map V.int)) : Dp K H (.ref a) (dI ns) := .lst h (dp_ints ns)
theorem eqv_ints : ∀ ns ms : List Int, PyData.eqvAll (ns.map PyData.int) (ms.map PyData.int) = decide (ns = ms)
  | [], [] => rfl
  | [], _ :: _ => rfl
  | _ :: _, [] => rfl
  | i :: r, j :: t => by
    show ((i == j) && PyData.eqvAll (r.map PyData.int) (t.map PyData.int)) = _
    rw [eqv_ints r t]
    by_cases e : i = j
    · subst e; by_cases f : r = t
      · subst f; simp
      · simp [f]
    · simp [e]
theorem eqv_dI (ns ms : List Int) : PyData.eqv (dI ns) (dI ms) = decide (ns = ms) := eqv_ints ns ms
theorem lay_ints : ∀ ns : List Int, PyData.canLayAll0 (ns.map PyData.int) = true
  | [] => rfl
  | _ :: r => lay_ints r
theorem depth_ints : ∀ ns : List Int, PyData.depthAll (ns.map PyData.int) = 0
  | [] => rfl
  | i :: r => by show max 0 (PyData.depthAll (r.map PyData.int)) = 0; rw [depth_ints r]; rfl
theorem shaped_dI (ns : List Int) : SeqAt.shaped (dI ns) = true := by
  unfold SeqAt.shaped
  rw [Bool.and_eq_true]
  refine ⟨lay_ints ns, ?_⟩
  show decide (PyData.depthAll (ns.map PyData.int) + 1 ≤ 64) = true
  rw [depth_ints]; rfl
/-- == of two lists of ints -/
theorem r_eqL {a b : Addr} {ns ms : List Int} {Q : VK} (h : SqL K H a (ns.map V.int)) (g : SqL K H b (ms.map V.int)) (q : Q (.bl (decide (ns = ms))) H) : rEqD K (.ref a) (.ref b) H Q :=
  ⟨_, _, dp_lst h, dp_lst g, shaped_dI ns, shaped_dI ms, by rw [eqv_dI]; exact q⟩
theorem r_neL {a b : Addr} {ns ms : List Int} {Q : VK} (h : SqL K H a (ns.map V.int)) (g : SqL K H b (ms.map V.int)) (q : Q (.bl (!decide (ns = ms))) H) : rNeD K (.ref a) (.ref b) H Q :=
  ⟨_, _, dp_lst h, dp_lst g, shaped_dI ns, shaped_dI ms, by rw [eqv_dI]; exact q⟩
end

/-! ### how long a repr may be -/
def Sh (b : Nat) (d : PyData) : Prop := d.showable = true ∧ d.shown.length ≤ b
theorem Sh.mono {b c : Nat} {d : PyData} (h : Sh b d) (e : b ≤ c) : Sh c d := ⟨h.1, Nat.le_trans h.2 e⟩
theorem len_app (a b : Str) : (a ++ b).length = a.length + b.length := by
  show (a.cps ++ b.cps).size = _
  exact Array.size_append
theorem from_le : ∀ (ts : List Str) (k b : Nat) (acc : Str), (∀ t ∈ ts, t.length ≤ b) → (textFrom k acc ts).length ≤ acc.length + ts.length * (b + 2)
  | [], _, _, _, _ => by simp [textFrom]
  | t :: r, k, b, acc, h => by
    have ht := h t List.mem_cons_self
    have ih := fun acc' => from_le r (k + 1) b acc' fun t ht => h t (List.mem_cons_of_mem _ ht)
    unfold textFrom
    refine Nat.le_trans (ih _) ?_
    rw [List.length_cons, Nat.succ_mul]
    have e2 : (Str.ofString ", ").length = 2 := rfl
    have e0 : (Str.ofString "").length = 0 := rfl
    generalize r.length * (b + 2) = R
    split <;> simp only [len_app] <;> omega
theorem all_sh {b : Nat} : ∀ {ds : List PyData}, (∀ d ∈ ds, Sh b d) → PyData.showableAll ds = true ∧ ∀ t ∈ PyData.shownAll ds, t.length ≤ b
  | [], _ => ⟨rfl, fun t h => nomatch h⟩
  | d :: r, h => by
    have h1 := h d List.mem_cons_self
    have ih := all_sh fun e he => h e (List.mem_cons_of_mem _ he)
    refine ⟨?_, fun t ht => ?_⟩
    · show (d.showable && PyData.showableAll r) = true
      rw [h1.1, ih.1]; rfl
    · rcases List.mem_cons.mp (show t ∈ d.shown :: PyData.shownAll r from ht) with e | e
      · subst e; exact h1.2
      · exact ih.2 t e
theorem shown_len : ∀ ds : List PyData, (PyData.shownAll ds).length = ds.length
  | [] => rfl
  | _ :: r => congrArg (· + 1) (shown_len r)
theorem Sh.list {b : Nat} {ds : List PyData} (h : ∀ d ∈ ds, Sh b d) : Sh (ds.length * (b + 2) + 2) (.list ds) := by
  obtain ⟨h1, h2⟩ := all_sh h
  refine ⟨h1, ?_⟩
  show (listText (PyData.shownAll ds)).length ≤ _
  unfold listText
  rw [len_app]
  have := from_le (PyData.shownAll ds) 0 b "[" h2
  rw [shown_len] at this
  have e1 : ("[" : Str).length = 1 := rfl
  have e2 : ("]" : Str).length = 1 := rfl
  omega
theorem piled_le : ∀ (ts : List Str) (b : Nat), (∀ t ∈ ts, t.length ≤ b) → piled ts ≤ ts.length * (b + 2)
  | [], _, _ => by simp [piled]
  | t :: r, b, h => by
    have h1 := h t List.mem_cons_self
    have ih := piled_le r b fun e he => h e (List.mem_cons_of_mem _ he)
    have e : piled (t :: r) = t.length + 2 + piled r := by simp [piled]
    rw [e, List.length_cons, Nat.succ_mul]
    omega
theorem Sh.tuple {b : Nat} {ds : List PyData} (h : ∀ d ∈ ds, Sh b d) : Sh (ds.length * (b + 2) + 3) (.tuple ds) := by
  obtain ⟨h1, h2⟩ := all_sh h
  refine ⟨h1, ?_⟩
  show (tupleText (PyData.shownAll ds)).length ≤ _
  unfold tupleText
  rw [len_app, len_app]
  have hp := piled_le (PyData.shownAll ds) b h2
  rw [shown_len] at hp
  have e1 : ("(" : Str).length = 1 := rfl
  have e2 : (Str.ofString ",)").length = 2 := rfl
  have e3 : (Str.ofString ")").length = 1 := rfl
  by_cases q : PyData.shownAll ds = []
  · rw [q]
    have e4 : (Str.join ", " []).length = 0 := rfl
    split <;> omega
  · have := join_length_add _ q
    split <;> omega
theorem Sh.bool {b : Bool} : Sh 5 (.bool b) := ⟨rfl, by cases b <;> decide⟩
theorem Sh.none : Sh 4 .none := ⟨rfl, by decide⟩
theorem Sh.int {i : Int} {k : Nat} (hk : 0 < k) (h : i.natAbs < 10 ^ k) (h9 : k ≤ 500) : Sh (k + 1) (.int i) := by
  refine ⟨?_, ?_⟩
  · show decide (i.natAbs.log2 < 1920) = true
    rw [decide_eq_true_eq]
    by_cases z : i.natAbs = 0
    · rw [z]; decide
    · refine (Nat.log2_lt z).mpr (Nat.lt_trans h (Nat.lt_of_le_of_lt (Nat.pow_le_pow_right (by decide) h9) (by decide +kernel)))
  · show (Str.ofString (toString i)).length ≤ k + 1
    match i, h with
    | .ofNat n, h => exact Nat.le_succ_of_le (PyProof.Rows.toString_length_le (v := (n : Int)) (by omega) hk (by
        have h' : n < 10 ^ k := h
        have : ((n : Nat) : Int) < ((10 ^ k : Nat) : Int) := by omega
        simpa using this))
    | .negSucc n, h =>
      have h' : n + 1 < 10 ^ k := h
      have := PyProof.Rows.toString_length_le (v := ((n + 1 : Nat) : Int)) (by omega) hk (by
        have : ((n + 1 : Nat) : Int) < ((10 ^ k : Nat) : Int) := by omega
        simpa using this)
      rw [PyProof.Rows.ofString_length, String.length_toList] at this
      rw [PyProof.Rows.ofString_length, String.length_toList]
      show ("-" ++ toString (n + 1)).length ≤ k + 1
      rw [String.length_append]
      have e : ("-" : String).length = 1 := rfl
      have e2 : (toString ((n + 1 : Nat) : Int)) = toString (n + 1) := rfl
      rw [e2] at this
      omega
theorem Sh.ints {ns : List Int} {k : Nat} (hk : 0 < k) (h9 : k ≤ 500) (h : ∀ i ∈ ns, i.natAbs < 10 ^ k) : Sh (ns.length * (k + 3) + 2) (dI ns) := by
  have := Sh.list (b := k + 1) (ds := ns.map PyData.int) fun d hd => by
    obtain ⟨i, hi, rfl⟩ := List.mem_map.mp hd
    exact Sh.int hk (h i hi) h9
  rw [List.length_map] at this
  exact this
/-- repr(a list), in a reading -/
theorem r_repr {K : PySem.W.Frag} {H : Hp} {a : Addr} {d : PyData} {Q : VK} (h : Dp K H (.ref a) d) (hd : d.depth ≤ 60) {b : Nat} (s : Sh b d) (hb : b ≤ 16777216) (q : Q (.str d.shown) H) : rReprD K [.ref a] H Q :=
  ⟨a, d, rfl, h, s.1, hd, Nat.le_trans s.2 hb, q⟩
theorem depth_dI (ns : List Int) : (dI ns).depth ≤ 60 := by show PyData.depthAll (ns.map PyData.int) + 1 ≤ 60; rw [depth_ints]; decide
end Xk

set_option Elab.async false
set_option linter.all false
set_option maxRecDepth 100000
namespace Xk
open PySem PySem.Spec PyProof.Rows L2
/-! ### isinstance, is None, truth values compared -/
section
variable {X : Cx} (K : PySem.W.Frag)
theorem ix_seqK (hK : X.K = K := by rfl) : IxR X (rIx K) := hK ▸ ix_seq
theorem pg_unlK {es : List Expr} {g : TGs} {k : Nat} {pos : Pos} (n : Nat) (hc : X.calm = true) (h : PGs X es g) (hn : (assignEach es X.env).length = n := by rfl) (hst : (assignEach es X.env).findIdx? (·.1) = none := by rfl) (hK : X.K = K := by rfl) : PG X (.Tuple es k pos) (gUnl K n g) := hK ▸ pg_unl hc h hn hst
/-- x in xs, data of few layers -/
def rInE (K : PySem.W.Frag) : R2 := fun x y H Q => ∃ d ds, Dp K H x d ∧ Dp K H y (.list ds) ∧ SeqAt.shaped d = true ∧ SeqAt.shaped (.list ds) = true ∧ d.depth ≤ 60 ∧ Q (.bl (ds.any fun z => PyData.eqv z d)) H
theorem op_inE (hu : X.A.units + 64 < cLine) (hK : X.K = K := by rfl) : OpR X (compareOp .In) (rInE K) := by
  subst hK
  intro pins s σ H x y v u Q I rx ry h
  obtain ⟨d, ds, hd, he, sd, se, dd, q⟩ := h
  obtain ⟨as, r1⟩ := Dp.reads I d x v hd rx
  obtain ⟨bs, r2⟩ := Dp.reads I (.list ds) y u he ry
  refine SeqAt.in_list_reads r2 r1 (SeqAt.canLay_of_shaped se) (SeqAt.canLay_of_shaped sd) ?_ ⟨.bl _, H, I, rfl, q⟩
  have := Nat.min_le_right (PyData.depthAll ds) d.depth
  omega
theorem isiK (hK : X.K = K := by rfl) : CallR X (.builtin "isinstance") (rIsi K) := hK ▸ call_isi
end
section
variable {K : PySem.W.Frag} {H H' : Hp} {Q : VK} {x : V} {T t : String} {r : Bool}
theorem r_isi (ty : TyX K H x (.type t)) (e : kitB t T = some r) (q : Q (.bl r) H) : rIsi K [x, .ty T] H Q := ⟨x, .ty T, .type t, .type T, r, rfl, .ty T, ty, kit_ty e, q⟩
theorem tyx_list {a : Addr} {xs : List V} (h : SqL K H a xs) : TyX K H (.ref a) (.type "list") := by
  rcases h with (h | ⟨o, h⟩) | ⟨o, its, n, h, c, _⟩
  · exact .base (.lst h)
  · exact .base (.frz h)
  · exact .kList h c
theorem tyx_tup {a : Addr} {xs : List V} (h : SqT K H a xs) : TyX K H (.ref a) (.type "tuple") := by
  rcases h with (h | ⟨o, h⟩) | ⟨o, its, n, h, c, _⟩
  · exact .base (.tup h)
  · exact .fTuple h
  · exact .kTuple h c
theorem r_isN {A : Prop} (q : A) : V.non = V.non ∧ A := ⟨rfl, q⟩
theorem r_neB {a b : Bool} (q : Q (.bl (!decide (a = b))) H) : rNe (.bl a) (.bl b) H Q := by
  refine ⟨rfl, ?_⟩
  have e : decide (V.bl a = V.bl b) = decide (a = b) := by
    by_cases h : a = b
    · subst h; simp
    · rw [decide_eq_false h, decide_eq_false]; intro z; cases z; exact h rfl
  rw [e]; exact q
theorem r_eqB {a b : Bool} (q : Q (.bl (decide (a = b))) H) : rEq (.bl a) (.bl b) H Q := by
  refine ⟨rfl, ?_⟩
  have e : decide (V.bl a = V.bl b) = decide (a = b) := by
    by_cases h : a = b
    · subst h; simp
    · rw [decide_eq_false h, decide_eq_false]; intro z; cases z; exact h rfl
  rw [e]; exact q
theorem r_iRev {tA : TA} {σ : L2.St} {R : L2.It → Hp → Prop} (h : tA σ H fun vs H1 => ∃ a xs, vs = [.ref a] ∧ SqL K H1 a xs ∧ R (Itv K a xs.length) H1) : iRev K tA σ H R := h
theorem r_insert {l : Addr} {xs : List V} {i : Int} {y : V} (h : H l = some (.lst xs)) (hz : xs.length < sizeLine) (h0 : 0 ≤ i) (h1 : i < 2 ^ 63) (q : Q .non (upd H l (.lst (xs.take i.toNat ++ [y] ++ xs.drop i.toNat)))) :
    ∃ (l' : Addr) (xs : List V) (i' : Int) (y' : V), V.ref l = .ref l' ∧ [V.int i, y] = [.int i', y'] ∧ H l' = some (.lst xs) ∧ xs.length < sizeLine ∧ 0 ≤ i' ∧ i' < 2 ^ 63 ∧ Q .non (upd H l' (.lst (xs.take i'.toNat ++ [y'] ++ xs.drop i'.toNat))) := ⟨l, xs, i, y, rfl, rfl, h, hz, h0, h1, q⟩
theorem r_all {a : Addr} {bs : List Bool} (h : SqL K H a (bs.map V.bl)) (q : Q (.bl (bs.all id)) H) : rAll K [.ref a] H Q := ⟨a, bs, rfl, h, q⟩
theorem inv_ints (x : Int) (l : List Int) : inV (.int x) (l.map V.int) = decide (x ∈ l) := by
  unfold inV
  rw [List.any_map]
  by_cases hm : x ∈ l
  · rw [decide_eq_true hm, List.any_eq_true]
    exact ⟨_, hm, by show (_ == _) = true; simp⟩
  · rw [decide_eq_false hm, List.any_eq_false]
    intro y hy
    show ¬ (y == x) = true
    intro e
    exact hm (eq_of_beq e ▸ hy)
theorem r_gunl {gs : TGs} {σ : L2.St} {Qs : L2.St → Hp → Prop} {p : Addr} {xs : List V} {n : Nat} (h : SqL K H p xs) (hl : xs.length = n) (q : gs xs σ H Qs) : gUnl K n gs (.ref p) σ H Qs := ⟨p, xs, rfl, h, hl, q⟩
theorem r_lenT {p : Addr} {xs : List V} (h : SqT K H p xs) (q : Q (.int xs.length) H) : Xk.rLen K [.ref p] H Q := ⟨p, xs, rfl, .inr h, q⟩
theorem pow5 {i : Int} {n : Nat} {j : Int} (h : i.natAbs < 2 ^ n) (h0 : 0 ≤ j) (hj : j ≤ 5) (hn : n ≤ 20000000) : CPowW i j := by
  refine ⟨h0, ?_⟩
  have h1 := bits_le h
  have : (Builtin.Int.intBits i : Int) * j ≤ 20000000 * 5 := by
    refine Int.mul_le_mul ?_ hj h0 (by omega)
    omega
  refine Int.le_trans this (by decide)
theorem r_par3 {tA : TA} {σ : L2.St} {nx bk ct : L2.St → Hp → Prop} {rt : VK} {i j l : Nat} (h : tA σ H fun vs H1 => ∃ x y z, vs = [x, y, z] ∧ nx (((σ.set i (some x)).set j (some y)).set l (some z)) H1) : tPar3 i j l tA ⟨nx, rt, bk, ct⟩ σ H := h
theorem r_ex3 {f : V → V → V → Prop} {x y z : V} (h : f x y z) : ∃ u v w, [x, y, z] = [u, v, w] ∧ f u v w := ⟨x, y, z, rfl, h⟩
theorem r_ixQL {p : Addr} {xs : List V} {i : Int} {v : V} (h : SqL K H p xs) (ha : atI xs i = some v) (q : Q v H) : rIx K (.ref p) (.int i) H Q := .inl ⟨p, xs, i, v, rfl, rfl, h, ha, q⟩
theorem r_ixQT {p : Addr} {xs : List V} {i : Int} {v : V} (h : SqT K H p xs) (ha : atI xs i = some v) (q : Q v H) : rIx K (.ref p) (.int i) H Q := .inr (.inl ⟨p, xs, i, v, rfl, rfl, h, ha, q⟩)
theorem r_reverse {p : Addr} {xs : List V} (h : H p = some (.lst xs)) (q : Q .non (upd H p (.lst xs.reverse))) : rReverse (.ref p) [] H Q := ⟨p, xs, rfl, rfl, h, q⟩
theorem r_extend {p b : Addr} {xs zs : List V} (h : H p = some (.lst xs)) (g : H b = some (.lst zs)) (hz : xs.length + zs.length ≤ sizeLine) (q : Q .non (upd H p (.lst (xs ++ zs)))) : rExtend (.ref p) [.ref b] H Q := ⟨p, b, xs, zs, rfl, rfl, h, g, hz, q⟩
theorem r_cat {p b : Addr} {xs ys : List V} (h : H p = some (.lst xs)) (g : H b = some (.lst ys)) (hz : xs.length + ys.length ≤ sizeLine) (q : ∀ n, H n = none → Q (.ref n) (upd H n (.lst (xs ++ ys)))) : rCat (.ref p) (.ref b) H Q := ⟨p, b, xs, ys, rfl, rfl, h, g, hz, q⟩
theorem cut_any {xs : List V} {z y : Int} {a b : Nat} (h : z = (a : Int)) (g : y = (b : Int)) : cutV xs (some z) (some y) = (xs.drop a).take (b - a) := by
  subst h; subst g
  unfold cutV
  rw [show HT.sIx xs.length 0 (some (a : Int)) = min a xs.length from HT.sIx_nat xs.length 0 a, show HT.sIx xs.length xs.length (some (b : Int)) = min b xs.length from HT.sIx_nat xs.length xs.length b]
  by_cases q : a ≤ xs.length
  · rw [Nat.min_eq_left q]
    by_cases q2 : b ≤ xs.length
    · rw [Nat.min_eq_left q2]
    · rw [Nat.min_eq_right (by omega), List.take_of_length_le (by rw [List.length_drop]; omega), List.take_of_length_le (by rw [List.length_drop]; omega)]
  · rw [Nat.min_eq_right (show xs.length ≤ a by omega), List.drop_of_length_le (Nat.le_refl _), List.drop_of_length_le (show xs.length ≤ a by omega)]; simp
/-! ### data kept -/
theorem sqT_same {a : Addr} {xs : List V} (s : Same H H') (h : SqT K H a xs) : SqT K H' a xs := by
  rcases h with (h | ⟨o, h⟩) | h
  · exact .inl (.inl (s _ _ h))
  · exact .inl (.inr ⟨o, s _ _ h⟩)
  · exact .inr h
mutual
theorem dp_same (s : Same H H') : ∀ (d : PyData) (v : V), Dp K H v d → Dp K H' v d
  | .none, _, h => by cases h; exact .non
  | .bool b, _, h => by cases h; exact .bl b
  | .int i, _, h => by cases h; exact .int i
  | .str y, _, h => by cases h; exact .str y
  | .list ds, _, h => by
    cases h with
    | lst e a => exact .lst (s.seq e) (dp_sameAll s ds _ a)
  | .tuple ds, _, h => by
    cases h with
    | tup e a => exact .tup (sqT_same s e) (dp_sameAll s ds _ a)
  | .dict _, _, h => by cases h
theorem dp_sameAll (s : Same H H') : ∀ (ds : List PyData) (vs : List V), DpAll K H vs ds → DpAll K H' vs ds
  | [], _, h => by cases h; exact .nil
  | d :: ds, _, h => by
    cases h with
    | cons a b => exact .cons (dp_same s d _ a) (dp_sameAll s ds _ b)
end
theorem dpall_len : ∀ {vs : List V} {ds : List PyData}, DpAll K H vs ds → vs.length = ds.length
  | _, _, .nil => rfl
  | _, _, .cons _ b => congrArg (· + 1) (dpall_len b)
theorem dpall_at : ∀ {vs : List V} {ds : List PyData} (h : DpAll K H vs ds) (i : Nat) (hi : i < ds.length), ∃ v, vs[i]? = some v ∧ Dp K H v ds[i]
  | _, _, .cons a b, 0, _ => ⟨_, rfl, a⟩
  | _, _, .cons a b, i + 1, hi => dpall_at b i (Nat.lt_of_succ_lt_succ hi)
theorem depth_at : ∀ {ds : List PyData} {i : Nat} (hi : i < ds.length), ds[i].depth ≤ PyData.depthAll ds
  | d :: ds, 0, _ => Nat.le_max_left _ _
  | d :: ds, i + 1, hi => Nat.le_trans (depth_at (ds := ds) (Nat.lt_of_succ_lt_succ hi)) (Nat.le_max_right _ _)
end
end Xk

set_option Elab.async false
set_option linter.all false
set_option maxRecDepth 100000
namespace Xk
open PySem PySem.Spec PyProof.Rows L2 GenW
/-! ### for in a generator -/
section
variable {M : Model} {A : Around} {R : GenEnd} {Y : Protocol} {n : Nat} {s₀ : Shared} {c : Code} {fs : List Frame} {s : Shared} {env : Env}
  {K : Flow → Sem PySem.Fin} {H : Value → Sem PySem.Fin} {gd : Bool → Bool} {lv : List Value → List Value}
theorem seg_For {target iter : Expr} {body orelse : List Stmt} {pos : Pos} (hs : ∀ x, foldedSetIterable iter env x = pure x)
    (h : wpAny M (A.over c fs) (eval iter env) (fun x s₁ => wpAny M (A.over c fs) (pyIter x) (fun it s₂ =>
      ∀ p, Seg M A R Y n s₀ (.forLoop target it body orelse env) (M.den (.forLoop target it body orelse env))
      (.ret (fun r => ((match r with | .ok f => (.pure f : Sem Flow) | .error e => .raise e).onRaise (cameBack env)).wrap K H gd lv) none (gd false) (lv []) c p [] :: fs) s₂)
      (fun x s' => Seg M A R Y n s₀ c (H x) fs s') s₁) (fun x s' => Seg M A R Y n s₀ c (H x) fs s') s) :
    Seg M A R Y n s₀ c ((exec (.For target iter body orelse pos) env).wrap K H gd lv) fs s := by
  rw [exec_For]
  simp only [hs]
  rw [Sem.bind_eq_wrap', Sem.wrap_wrap]
  refine seg_wrap (wpAny_standAt ?_)
  rw [Sem.bind_eq_wrap', Sem.wrap_wrap]
  refine seg_wrap (wpAny_mono h (fun x s₁ h₁ => ?_) fun _ _ z => z)
  show Seg M A R Y n s₀ c (Sem.wrap K H gd lv (standAt iter.pos >>= fun _ => holding [x] (pyIter x) >>= fun it => runOwn (.forLoop target it body orelse env) env)) fs s₁
  rw [Sem.bind_eq_wrap', Sem.wrap_wrap]
  refine seg_wrap (wpAny_standAt ?_)
  rw [Sem.bind_eq_wrap', Sem.wrap_wrap]
  refine seg_wrap (wpAny_holding (wpAny_mono h₁ (fun it s₂ h₂ => ?_) fun _ _ z => z))
  exact seg_call h₂
end
section
variable {prog : Program} {w : World} {A : Around} {R : GenEnd} {Y : Protocol} {n : Nat} {s₀ : Shared} {fs : List Frame} {s : Shared} {env : Env}
/-- one turn: a next item, or the end -/
theorem seg_forLoop {target : Expr} {it : Value} {body : List Stmt}
    (h : wpAny (model prog w) (A.over (.forLoop target it body [] env) fs) (pyNext it) (fun r s' => match r with
      | none => Seg (model prog w) A R Y n s₀ (.forLoop target it body [] env) (.pure (.again (.block [] env))) fs s'
      | some v => wpAny (model prog w) (A.over (.forLoop target it body [] env) fs) (letOwnedTupleGo target it v) (fun _ s1 =>
          wpAny (model prog w) (A.over (.forLoop target it body [] env) fs) (assign target env v) (fun _ s2 =>
            Seg (model prog w) A R Y n s₀ (.forLoop target it body [] env) ((execs body env).wrap (fun f => match f with
              | .next | .cont => .pure (.again (.forLoop target it body [] env))
              | .brk => .pure (.done .next)
              | .ret v => .pure (.done (.ret v))) (fun e => (do noteFrame e env; theTreesLotGoes e : Sem Unit).wrap (fun _ => .raise e) .raise id id) id id) fs s2) (fun _ _ => False) s1) (fun _ _ => False) s')
      (fun _ _ => False) s) :
    Seg (model prog w) A R Y n s₀ (.forLoop target it body [] env) ((model prog w).den (.forLoop target it body [] env)) fs s := by
  show Seg _ A R Y n s₀ _ ((forTurn target it body [] env).onRaise (fun x => do noteFrame x env; theTreesLotGoes x)) fs s
  unfold forTurn
  rw [Sem.onRaise_eq_wrap, Sem.bind_eq_wrap', Sem.wrap_wrap]
  refine seg_wrap (wpAny_standAt ?_)
  rw [Sem.bind_eq_wrap', Sem.wrap_wrap]
  refine seg_wrap (wpAny_onRaise (wpAny_mono h (fun r s' hr => ?_) fun _ _ z => z.elim))
  cases r with
  | none => exact hr
  | some v =>
    show Seg _ A R Y n s₀ _ (Sem.wrap _ _ _ _ (letOwnedTupleGo target it v >>= _)) fs s'
    rw [Sem.bind_eq_wrap', Sem.wrap_wrap]
    refine seg_wrap (wpAny_mono hr (fun _ s1 h1 => ?_) fun _ _ z => z.elim)
    rw [Sem.bind_eq_wrap', Sem.wrap_wrap]
    refine seg_wrap (wpAny_mono h1 (fun _ s2 h2 => ?_) fun _ _ z => z.elim)
    rw [Sem.bind_eq_wrap', Sem.wrap_wrap]
    rw [Sem.wrap_congr (execs body env) _ _ (K' := fun f => match f with
          | .next | .cont => .pure (.again (.forLoop target it body [] env))
          | .brk => .pure (.done .next)
          | .ret v => .pure (.done (.ret v))) (H' := (fun e => (do noteFrame e env; theTreesLotGoes e : Sem Unit).wrap (fun _ => .raise e) .raise id id))
      (fun f => by cases f <;> rfl)
      (fun e => by first | exact Sem.bind_eq_wrap _ _ | (show (do noteFrame e env; theTreesLotGoes e : Sem Unit).bind (fun _ => .raise e) = _; rw [Sem.bind_eq_wrap]))]
    exact h2
theorem seg_block0 {c : Code} {p : Pos} {l kp : List Value} {k : Result → Sem PySem.Fin} {g : Bool}
    (h : Seg (model prog w) A R Y n s₀ c (k (.ok .next)) fs s) :
    Seg (model prog w) A R Y n s₀ (.block [] env) ((model prog w).den (.block [] env)) (.ret k none g l c p kp :: fs) s := by
  show Seg _ A R Y n s₀ _ (leafOf (.ok .next)) _ s
  exact seg_leaf (.ok .next) h
end
/-- a for whose turns may hand out: as tFor, ys is out so far -/
def tGFor (wi : TI) (g : TG) (tb : TGn) : TGn := fun D ys σ H => wi σ H fun J H1 => ∃ W : Nat → Nat → List V → L2.St → Hp → Prop, (∃ m, W 0 m ys σ H1) ∧ ∀ i m ys σ H, W i m ys σ H →
  (J.stop i H ∧ D.nx ys σ H) ∨ (J.go i H ∧ ∃ N : List V → L2.St → Hp → Prop, (∀ ys' σ' H', N ys' σ' H' → ∃ m', m' < m ∧ W (i + 1) m' ys' σ' H') ∧ ∀ x H', J.yld i H x H' → g x σ H' fun σ2 H2 => tb { D with nx := N, ct := N, bk := D.nx } ys σ2 H2)
section
variable {X : Cx}
theorem gs_for {tg iter : Expr} {body : List Stmt} {wi : TI} {g : TG} {tb : TGn} {pos : Pos} (hno : ∀ e s', X.xe e s' → False) (hc : X.calm = true) (hi : PI X tg iter wi) (hg : PG X tg g) (hb : GSs X body tb)
    (hs : ∀ x, foldedSetIterable iter X.env x = pure x := by intro _; rfl) : GS X (.For tg iter body [] pos) (tGFor wi g tb) := by
  refine ⟨fun A S ip R n ys s₀ c fs K J gd lv s σ H D gc hn k hI ht => ?_⟩
  obtain ⟨acc, cc, r, I⟩ := hI
  refine seg_For hs ?_
  rw [gc.over]
  refine wpAny_mono (hi.run _ s σ H _ I ht) (fun v s1 h1 => wpAny_mono h1 (fun itv s2 h2 => ?_) fun x s' hx => (hno x s' hx).elim) fun x s' hx => (hno x s' hx).elim
  obtain ⟨it, fp, tn, J', H2, e, I2, T, st2, f2, W, ⟨m0, w0⟩, turn⟩ := h2
  subst e
  have hfS : ∀ b ∈ fp, S ≠ b := fun b hb => (f2 b hb).2.2.2.2.2 (S, lstObj acc cc) (List.mem_append_right _ List.mem_cons_self)
  have stat : ∀ {H' : Hp} {acc' : Array Value} {c' : Nat}, (∀ b ∈ fp, H' b = none) → ∀ b ∈ fp, FpOk X ((S, lstObj acc' c') :: ip) H' b := fun hn b hb => ⟨hn b hb, (f2 b hb).2.1, (f2 b hb).2.2.1, (f2 b hb).2.2.2.1, (f2 b hb).2.2.2.2.1, fun p hp => by
      rcases List.mem_append.mp hp with z | z
      · exact (f2 b hb).2.2.2.2.2 p (List.mem_append_left _ z)
      · rcases List.mem_cons.mp z with z | z
        · rw [z]; exact hfS b hb
        · exact (f2 b hb).2.2.2.2.2 p (List.mem_append_right _ (List.mem_cons_of_mem _ z))⟩
  intro p
  have gl := fun (kk : Result → Sem PySem.Fin) => gc_loop (k := kk) (c' := .forLoop tg (.ref it) body [] X.env) (l := lv []) (kp := []) (p := p) gc rfl rfl
  have loop : ∀ (m i n : Nat) (ys : List V) (s₀ s : Shared) (σ : L2.St) (H : Hp), n + ys.length = sizeLine → W i m ys σ H → GI X S ip ys σ H s → tn i s.heap → (∀ b ∈ fp, H b = none) →
      Seg (model X.prog X.w) A R (GY X S) n s₀ (.forLoop tg (.ref it) body [] X.env) ((model X.prog X.w).den (.forLoop tg (.ref it) body [] X.env))
        (.ret (fun r => ((match r with | .ok f => (.pure f : Sem Flow) | .error e => .raise e).onRaise (cameBack X.env)).wrap K J gd lv) none (gd false) (lv []) c p [] :: fs) s := by
    intro m
    induction m using Nat.strongRecOn with
    | ind m ih =>
      intro i n ys s₀ s3 σ3 H3 hn w hI st3 fr3
      refine seg_forLoop ?_
      rw [(gl _).over]
      obtain ⟨acc, cc, r, I⟩ := hI
      rcases turn i m ys σ3 H3 w with ⟨stop, qn⟩ | ⟨go, N, hN, step⟩
      · refine wpAny_mono (T.done X rfl rfl rfl hc i _ s3 σ3 H3 (fun _ _ => False) I (stat fr3) st3 stop) (fun r' s4 hr4 => ?_) fun _ _ z => z
        obtain ⟨hr, I4⟩ := hr4
        subst hr
        exact seg_again rfl (seg_block0 (k.ok n ys s₀ s4 .next hn ⟨σ3, H3, ⟨acc, cc, r, I4⟩, qn⟩))
      · refine wpAny_mono (T.item X rfl rfl rfl hc i _ s3 σ3 H3 (fun _ _ => False) I (stat fr3) st3 go) (fun r' s4 hr4 => ?_) fun _ _ z => z
        obtain ⟨u, hr, h4⟩ := hr4
        subst hr
        refine wpAny_mono h4 (fun _ s5 h5 => ?_) fun _ _ z => z
        obtain ⟨x, H5, I5, r5, y5, st5, fr5⟩ := h5
        have I5' := I5.pinned (stat fr5) (T.obj _ _ st5)
        refine wpAny_mono (hg.run _ s5 σ3 H5 x u _ I5' r5 (step x H5 y5)) (fun _ s6 h6 => ?_) fun x s' hx => hno x s' hx
        obtain ⟨σ6, H6, I6, q6⟩ := h6
        have g1 := gl (fun r => ((match r with | .ok f => (.pure f : Sem Flow) | .error e => .raise e).onRaise (cameBack X.env)).wrap K J gd lv)
        have gl' : GC X S (ip ++ pinsAt fp s5.heap) A (.forLoop tg (.ref it) body [] X.env) (.ret (fun r => ((match r with | .ok f => (.pure f : Sem Flow) | .error e => .raise e).onRaise (cameBack X.env)).wrap K J gd lv) none (gd false) (lv []) c p [] :: fs) id :=
          { pn := g1.pn, apart := g1.apart, over := g1.over, split := g1.split, guard := g1.guard, gd := rfl,
            ip := fun q hq => (List.mem_append.mp hq).elim (gc.ip q) fun z => Ne.symm (hfS q.1 (of_pinsAt z).1) }
        have back : ∀ {ys' : List V} {σ7 : L2.St} {H7 : Hp} {s7 : Shared}, GI X S (ip ++ pinsAt fp s5.heap) ys' σ7 H7 s7 → GI X S ip ys' σ7 H7 s7 ∧ tn (i + 1) s7.heap ∧ ∀ b ∈ fp, H7 b = none := fun {ys' σ7 H7 s7} hI7 => by
          obtain ⟨a7, c7, r7, J7⟩ := hI7
          refine ⟨⟨a7, c7, r7, J7.pins_of fun q hq => J7.pin q (List.mem_append_right _ ?_)⟩, T.keep _ _ _ st5 fun b hb o e => (J7.pin (b, o) (List.mem_append_right _ (List.mem_cons_of_mem _ (List.mem_append_right _ (mem_pinsAt hb e))))).1, fun b hb => ?_⟩
          · rcases List.mem_cons.mp hq with z | z
            · rw [z]; exact List.mem_cons_self
            · exact List.mem_cons_of_mem _ (List.mem_append_left _ z)
          · obtain ⟨o, e, d⟩ := T.obj _ _ st5 b hb
            exact (J7.pin (b, o) (List.mem_append_right _ (List.mem_cons_of_mem _ (List.mem_append_right _ (mem_pinsAt hb e))))).2.1
        refine hb.run A S (ip ++ pinsAt fp s5.heap) R n ys s₀ _ _ _ _ id id s6 σ6 H6 { D with nx := N, ct := N, bk := D.nx } gl' hn ⟨fun n' ys' s₀' s7 f hn' hs => ?_, fun n' s₀' x s3 hx => (hno x s3 hx).elim⟩ ⟨acc, cc, r, I6⟩ q6
        cases f with
        | next =>
          obtain ⟨σ7, H7, I7, n7⟩ := hs
          obtain ⟨m', hm, w7⟩ := hN ys' σ7 H7 n7
          obtain ⟨b1, b2, b3⟩ := back I7
          exact seg_again rfl (ih m' hm (i + 1) n' ys' s₀' s7 σ7 H7 hn' w7 b1 b2 b3)
        | cont =>
          obtain ⟨σ7, H7, I7, n7⟩ := hs
          obtain ⟨m', hm, w7⟩ := hN ys' σ7 H7 n7
          obtain ⟨b1, b2, b3⟩ := back I7
          exact seg_again rfl (ih m' hm (i + 1) n' ys' s₀' s7 σ7 H7 hn' w7 b1 b2 b3)
        | brk =>
          obtain ⟨σ7, H7, I7, q7⟩ := hs
          exact seg_leaf (.ok .next) (k.ok n' ys' s₀' s7 .next hn' ⟨σ7, H7, (back I7).1, q7⟩)
        | ret v =>
          obtain ⟨x7, σ7, H7, I7, r7, q7⟩ := hs
          exact seg_leaf (.ok (.ret v)) (k.ok n' ys' s₀' s7 (.ret v) hn' ⟨x7, σ7, H7, (back I7).1, r7, q7⟩)
  exact loop m0 0 n ys s₀ s2 σ H2 hn w0 ⟨acc, cc, r, I2⟩ st2 fun b hb => (f2 b hb).1
end
/-! ### no exception leaves; a generator def by its body -/
section
variable {X : Cx} {S : Addr} {ip : List (Addr × Obj)} {ys : List V} {σ : L2.St} {H : Hp} {s : Shared} {E : Value → Shared → Prop} {D : GEnds} {f : Flow}
theorem gi_wish (h : GI X S ip ys σ H s) : GI (X.wish E) S ip ys σ H s := match h with | ⟨a, c, r, I⟩ => ⟨a, c, r, I.wish E⟩
theorem gi_unwish (h : GI (X.wish E) S ip ys σ H s) : GI X S ip ys σ H s := match h with | ⟨a, c, r, I⟩ => ⟨a, c, r, I.unwish⟩
theorem gsp_unwish (h : GSP (X.wish E) S ip D ys f s) : GSP X S ip D ys f s := by
  cases f with
  | next => obtain ⟨a, b, h1, h2⟩ := h; exact ⟨a, b, gi_unwish h1, h2⟩
  | brk => obtain ⟨a, b, h1, h2⟩ := h; exact ⟨a, b, gi_unwish h1, h2⟩
  | cont => obtain ⟨a, b, h1, h2⟩ := h; exact ⟨a, b, gi_unwish h1, h2⟩
  | ret u => obtain ⟨v, a, b, h1, h2⟩ := h; exact ⟨v, a, b, gi_unwish h1, h2⟩
theorem gss_nox {st : List Stmt} {t : TGn} (h : GSs X.nox st t) : GSs X st t := by
  refine ⟨fun A S ip R n ys s₀ c fs K J gd lv s σ H D g hn k hI ht => ?_⟩
  refine seg_imp (R := R) (Y := GY X.nox S) (fun _ _ _ _ z => z) (fun n s₀ v s kap kap' hkk hy => ?_) n (h.run A S ip R n ys s₀ c fs K J gd lv s σ H D ⟨g.pn, g.ip, g.apart, g.over, g.split, g.guard, g.gd⟩ hn ⟨fun n' ys' s₀' s' f hn' hs => ?_, fun _ _ _ _ z => z.elim⟩ (gi_wish hI) ht)
  · obtain ⟨ys, x, ip, σ, H, h1, h2, h3, h4⟩ := hy
    exact ⟨ys, x, ip, σ, H, h1, h2, gi_unwish h3, fun s' z => hkk _ _ (h4 s' z)⟩
  · refine seg_imp (R := R) (Y := GY X S) (fun _ _ _ _ z => z) (fun n s₀ v s kap kap' hkk hy => ?_) n' (k.ok n' ys' s₀' s' f hn' (gsp_unwish hs))
    obtain ⟨ys, x, ip, σ, H, h1, h2, h3, h4⟩ := hy
    exact ⟨ys, x, ip, σ, H, h1, h2, gi_wish h3, fun s' z => hkk _ _ (h4 s' z)⟩
end
section
variable {P : Program} {w : World} {K : PySem.W.Frag} {mg : Str → Option Value} {base : Heap}
theorem okGen {x qual : Str} {st : Stmt} {f : Addr} {fd : FuncData} {N ps : List Str} {k : Nat} {sp : SpG} (F : Fun K x qual st f fd) (S : GScope N ps (defScope st)) (cnt : ∀ vs H Q E, sp vs H Q E → vs.length = ps.length)
    (body : ∀ (cdv : Value) (A : Around) (ou : List Env) (t : Shared) (H : Hp) (vs : List V) (Q : List V → Hp → Prop) (E : XK) (pn : List (Addr × Obj)), Room k (A.deeper (envOfC qual (defScope st) t.heap.objs.size f cdv)) → sp vs H Q E →
      ∃ r, GSs (gcxOf P w K mg base N qual (defScope st) f cdv A ou t H E pn).nox (defBody st) r ∧ r ⟨fun ys _ H' => Q ys H', fun ys v H' => v = .non ∧ Q ys H', fun _ _ _ => False, fun _ _ _ => False⟩ [] (L2.start N vs) H) :
    GFn P w K mg base (k + 1) f fd ps sp := by
  obtain ⟨oc, od, kV, doc, pm, an, cdv, ct, osl, rfl, lk, hcd⟩ := F.ex
  refine gfn_of lk hcd S cnt fun A ou t H vs Q E pn hr hsp => ?_
  obtain ⟨r, h, q⟩ := body cdv A ou t H vs Q E pn hr hsp
  exact ⟨r, gss_nox h, q⟩
end
section
variable {X : Cx}
theorem passG {X : Cx} : Passes (CX X.prog X.w) X (fun _ _ _ => False) := fun pins σ H s e s' _ h => by
  obtain ⟨_, _, _, _, _, _, _, _, _, _, _, _, z⟩ := h
  exact z.elim
theorem noStop0 {K : PySem.W.Frag} : NoStop K (fun _ _ _ => False) := fun _ _ _ z => z.elim
theorem r_gone {D : GEnds} {ys : List V} {σ : L2.St} {H : Hp} {t u : TGn} (h : t ⟨fun ys' σ' H' => u D ys' σ' H', D.rt, D.bk, D.ct⟩ ys σ H) : tGThen t u D ys σ H := h
theorem r_gplain {D : GEnds} {ys : List V} {σ : L2.St} {H : Hp} {t : TS} (h : t ⟨D.nx ys, D.rt ys, D.bk ys, D.ct ys⟩ σ H) : tPlain t D ys σ H := h
theorem r_gyield {D : GEnds} {ys : List V} {σ : L2.St} {H : Hp} {te : TE} (hy : ys.length < sizeLine) (h : te σ H fun x H1 => D.nx (ys ++ [x]) σ H1) : tGYield te D ys σ H := ⟨hy, h⟩
theorem r_g0 {D : GEnds} {ys : List V} {σ : L2.St} {H : Hp} (h : D.nx ys σ H) : tG0 D ys σ H := h
theorem r_gfor {wi : TI} {g : TG} {tb : TGn} {D : GEnds} {ys : List V} {σ : L2.St} {H : Hp} (h : wi σ H fun J H1 => ∃ W : Nat → Nat → List V → L2.St → Hp → Prop, (∃ m, W 0 m ys σ H1) ∧ ∀ i m ys σ H, W i m ys σ H →
  (J.stop i H ∧ D.nx ys σ H) ∨ (J.go i H ∧ ∃ N : List V → L2.St → Hp → Prop, (∀ ys' σ' H', N ys' σ' H' → ∃ m', m' < m ∧ W (i + 1) m' ys' σ' H') ∧ ∀ x H', J.yld i H x H' → g x σ H' fun σ2 H2 => tb ⟨N, D.rt, D.nx, N⟩ ys σ2 H2)) : tGFor wi g tb D ys σ H := h
/-- a generator's turns over what is walked -/
theorem gforI {J : It} {n : Nat} {G : Hp → Prop} {Y : Nat → Hp → V → Hp → Prop} (w : Walk J n G Y) {g : TG} {tb : TGn} {nx : List V → L2.St → Hp → Prop} {rt : List V → VK} {ys : List V} {σ : L2.St} {H : Hp} (Pv : Nat → List V → L2.St → Hp → Prop) (h0 : Pv 0 ys σ H) (hG : ∀ i ys σ H, i ≤ n → Pv i ys σ H → G H)
    (hs : ∀ i x ys σ H H', i < n → Pv i ys σ H → Y i H x H' → g x σ H' fun σ2 H2 => tb ⟨Pv (i + 1), rt, nx, Pv (i + 1)⟩ ys σ2 H2) (hd : ∀ ys σ H, Pv n ys σ H → nx ys σ H) :
    ∃ W : Nat → Nat → List V → L2.St → Hp → Prop, (∃ m, W 0 m ys σ H) ∧ ∀ i m ys σ H, W i m ys σ H →
      (J.stop i H ∧ nx ys σ H) ∨ (J.go i H ∧ ∃ N : List V → L2.St → Hp → Prop, (∀ ys' σ' H', N ys' σ' H' → ∃ m', m' < m ∧ W (i + 1) m' ys' σ' H') ∧ ∀ x H', J.yld i H x H' → g x σ H' fun σ2 H2 => tb ⟨N, rt, nx, N⟩ ys σ2 H2) := by
  refine ⟨fun i m ys σ H => i + m = n ∧ Pv i ys σ H, ⟨n, Nat.zero_add n, h0⟩, fun i m ys σ H ⟨e, p⟩ => ?_⟩
  cases m with
  | zero =>
    have e' : i = n := e
    subst e'
    exact .inl ⟨w.stops _ (hG _ ys σ H (Nat.le_refl _) p), hd _ _ _ p⟩
  | succ m =>
    refine .inr ⟨w.goes i H (by omega) (hG i ys σ H (by omega) p), Pv (i + 1), fun ys' σ' H' q => ⟨m, Nat.lt_succ_self m, by omega, q⟩, fun x H' y => ?_⟩
    exact hs i x ys σ H H' (by omega) p (w.yields i H x H' (by omega) (hG i ys σ H (by omega) p) y)
theorem gforA {J : It} {G : Hp → Prop} {xs : List V} (w : Walk J xs.length G (YAt xs)) {g : TG} {tb : TGn} {nx : List V → L2.St → Hp → Prop} {rt : List V → VK} {ys : List V} {σ : L2.St} {H : Hp} (Pv : Nat → List V → L2.St → Hp → Prop) (h0 : Pv 0 ys σ H) (hG : ∀ i ys σ H, i ≤ xs.length → Pv i ys σ H → G H)
    (hs : ∀ i ys σ H (hi : i < xs.length), Pv i ys σ H → g xs[i] σ H fun σ2 H2 => tb ⟨Pv (i + 1), rt, nx, Pv (i + 1)⟩ ys σ2 H2) (hd : ∀ ys σ H, Pv xs.length ys σ H → nx ys σ H) :
    ∃ W : Nat → Nat → List V → L2.St → Hp → Prop, (∃ m, W 0 m ys σ H) ∧ ∀ i m ys σ H, W i m ys σ H →
      (J.stop i H ∧ nx ys σ H) ∨ (J.go i H ∧ ∃ N : List V → L2.St → Hp → Prop, (∀ ys' σ' H', N ys' σ' H' → ∃ m', m' < m ∧ W (i + 1) m' ys' σ' H') ∧ ∀ x H', J.yld i H x H' → g x σ H' fun σ2 H2 => tb ⟨N, rt, nx, N⟩ ys σ2 H2) :=
  gforI w Pv h0 hG (fun i x ys σ H H' hi p y => by
    obtain ⟨rfl, e⟩ := y
    rw [List.getElem?_eq_getElem hi] at e
    cases e
    exact hs i ys σ H' hi p) hd
end
end Xk
local macro_rules | `(tactic| fail "one") => `(tactic| with_reducible first
  | refine Xk.r_gone ?_ | refine Xk.r_gplain ?_ | refine Xk.r_g0 ?_ | refine Xk.r_gfor ?_)

set_option Elab.async false
set_option linter.all false
set_option maxRecDepth 100000
namespace Xk
open PySem PySem.Spec PyProof.Rows L2 GenW
theorem zipNoLen : typeLookup (.type "zip") "__len__" = pure none := by rw [typeLookup_type, builtinLookup_eq_fast]; kernel_rfl
theorem zipNoHint : typeLookup (.type "zip") "__length_hint__" = pure none := by rw [typeLookup_type, builtinLookup_eq_fast]; kernel_rfl
/-- a zip of two lists amid its turns, the pairs that it gave out being kept (in S) -/
def ZSt (z TI TO i1 i2 l1 l2 S : Addr) (xs ys : Array Value) (i : Nat) (h : Heap) : Prop :=
  IsPair h TI (.ref i1) (.ref i2) ∧ h.IsListIter i1 l1 i ∧ h.IsListIter i2 l2 i ∧ h.IsList l1 xs ∧ h.IsList l2 ys ∧
    ((IsZip h z TI TO .none ∧ ∃ a b, IsPair h TO a b) ∨ ∃ T f oT, IsZipHeld h z TI TO T f ∧ h.get? T = some oT ∧ T ≠ z ∧ T ≠ i1 ∧ T ≠ i2 ∧ T ≠ S ∧ ∃ oo, h.get? TO = some oo)
section
variable {X : Cx} {A : Around} {z TI TO i1 i2 l1 l2 S : Addr} {xs ys : Array Value} {vx vy : List V} {pins : List (Addr × Obj)} {σ : L2.St} {H0 : Hp} {R : Result → Shared → Prop} {res : Value}
structure ZOff (z TI TO i1 i2 l1 l2 S : Addr) : Prop where
  z : S ≠ z
  TI : S ≠ TI
  TO : S ≠ TO
  i1 : S ≠ i1
  i2 : S ≠ i2
  l1 : S ≠ l1
  l2 : S ≠ l2
/-- the pairs' tuples -/
structure Prs (H0 H : Hp) (ts : List Addr) (vx vy : List V) : Prop where
  at_ : ∀ (j : Nat) (t : Addr), ts[j]? = some t → H0 t = none ∧ ∃ x y, vx[j]? = some x ∧ vy[j]? = some y ∧ H t = some (.tup [x, y])
theorem zip_next {i : Nat} {s : Shared} {x y : Value} {E : Value → Shared → Prop} {Q : Option Value → Shared → Prop} (D : ZipApart z TI TO i1 i2 l1 l2) (off : ZOff z TI TO i1 i2 l1 l2 S) (hS : S < s.heap.objs.size) (st : ZSt z TI TO i1 i2 l1 l2 S xs ys i s.heap) (hx : xs[i]? = some x) (hy : ys[i]? = some y)
    (hQ : ∀ h', (∀ b o, b ∉ [z, TO, i1, i2] → s.heap.get? b = some o → h'.get? b = some o) → IsPair h' s.heap.objs.size x y → h'.objs.size = s.heap.objs.size + 1 →
      (∀ h'', (∀ b o, b ≠ S → h'.get? b = some o → h''.get? b = some o) → ZSt z TI TO i1 i2 l1 l2 S xs ys (i + 1) h'') → Q (some (.ref s.heap.objs.size)) { s with heap := h' }) :
    wpAny (model X.prog X.w) A (pyNext (.ref z)) Q E s := by
  obtain ⟨hTI, h1, h2, hl1, hl2, hz⟩ := st
  have big : ∀ {c o}, s.heap.get? c = some o → s.heap.objs.size ≠ c := fun e => Nat.ne_of_gt (Heap.lt_size e)
  have b1 : s.heap.objs.size ≠ i1 := let ⟨_, e, _⟩ := h1; big e
  have b2 : s.heap.objs.size ≠ i2 := let ⟨_, e, _⟩ := h2; big e
  rcases hz with ⟨hz, a, b, hTO⟩ | ⟨T, f, oT, hz, hT, r1, r2, r3, r4, oo, hoo⟩
  · refine wpAny_pyNext_zip_item D hz hTI hTO h1 h2 hl1 hl2 hx hy fun h' a1 a2 a3 a4 a5 a6 hk => ?_
    refine hQ h' (fun c o hc e => hk c o (fun q => hc (by simp [q])) (fun q => hc (by simp [q])) (fun q => hc (by simp [q])) (fun q => hc (by simp [q])) e) a5 a6 fun h'' k => ?_
    refine ⟨k _ _ off.TI.symm (hk _ _ D.TIz D.TITO D.TIi1 D.TIi2 hTI), a3.at fun o e => k _ o off.i1.symm e, a4.at fun o e => k _ o off.i2.symm e, hl1.at fun o e => k _ o off.l1.symm (hk _ o D.l1z D.l1TO D.l1i1 D.l1i2 e), hl2.at fun o e => k _ o off.l2.symm (hk _ o D.l2z D.l2TO D.l2i1 D.l2i2 e),
      .inr ⟨s.heap.objs.size, false, _, k _ _ off.z.symm a1, k _ _ (Nat.ne_of_gt hS) a5, big hz, b1, b2, Nat.ne_of_gt hS, _, k _ _ off.TO.symm a2⟩⟩
  · refine wpAny_pyNext_zip_item_held D hz hT hTI h1 h2 hl1 hl2 hx hy fun h' a1 a3 a4 a5 a6 hk => ?_
    refine hQ h' (fun c o hc e => hk c o (fun q => hc (by simp [q])) (fun q => hc (by simp [q])) (fun q => hc (by simp [q])) e) a5 a6 fun h'' k => ?_
    refine ⟨k _ _ off.TI.symm (hk _ _ D.TIz D.TIi1 D.TIi2 hTI), a3.at fun o e => k _ o off.i1.symm e, a4.at fun o e => k _ o off.i2.symm e, hl1.at fun o e => k _ o off.l1.symm (hk _ o D.l1z D.l1i1 D.l1i2 e), hl2.at fun o e => k _ o off.l2.symm (hk _ o D.l2z D.l2i1 D.l2i2 e),
      .inr ⟨T, true, oT, k _ _ off.z.symm a1, k _ _ r4 (hk _ _ r1 r2 r3 hT), r1, r2, r3, r4, oo, k _ _ off.TO.symm (hk _ _ D.TOz D.TOi1 D.TOi2 hoo)⟩⟩
theorem zip_over {i : Nat} {s : Shared} {E : Value → Shared → Prop} {Q : Option Value → Shared → Prop} (hh : A.handled = none) (D : ZipApart z TI TO i1 i2 l1 l2) (st : ZSt z TI TO i1 i2 l1 l2 S xs ys i s.heap) (he : xs[i]? = none ∨ ys[i]? = none)
    (hQ : ∀ h', (∀ b o, b ∉ [z, TO, i1, i2] → s.heap.get? b = some o → h'.get? b = some o) → Q none { s with heap := h' }) : wpAny (model X.prog X.w) A (pyNext (.ref z)) Q E s := by
  obtain ⟨hTI, h1, h2, hl1, hl2, hz⟩ := st
  rcases hz with ⟨hz, a, b, hTO⟩ | ⟨T, f, oT, hz, hT, r1, r2, r3, r4, oo, hoo⟩
  · exact wpAny_pyNext_zip_end hh D hz hTI hTO h1 h2 hl1 hl2 he fun h' hk => hQ h' fun c o hc e => hk c o (fun q => hc (by simp [q])) (fun q => hc (by simp [q])) (fun q => hc (by simp [q])) (fun q => hc (by simp [q])) e
  · exact wpAny_pyNext_zip_end_held hh D hz hT hTI h1 h2 hl1 hl2 he fun h' hk => hQ h' fun c o hc e => hk c o (fun q => hc (by simp [q])) (fun q => hc (by simp [q])) (fun q => hc (by simp [q])) e
theorem zip_drain (hh : A.handled = none) (D : ZipApart z TI TO i1 i2 l1 l2) (off : ZOff z TI TO i1 i2 l1 l2 S) (rx : Vals vx xs.toList) (ry : Vals vy ys.toList) {n : Nat} (hn : n = min vx.length vy.length) (hsz : n ≤ sizeLine)
    (hend : ∀ (H : Hp) (s' : Shared) (ts : List Addr) (acc : Array Value) (c : Nat), Inv X pins σ H s' → (∀ b ∈ [z, TO, i1, i2, S], FpOk X pins H b) → s'.heap.get? S = some (lstObj acc c) → Vals (ts.map V.ref) acc.toList → ts.length = n → Same H0 H → Prs H0 H ts vx vy → R (.ok (.ret res)) s') :
    ∀ (m i : Nat) (s : Shared) (H : Hp) (ts : List Addr) (acc : Array Value) (c : Nat), m + i = n → ZSt z TI TO i1 i2 l1 l2 S xs ys i s.heap → Inv X pins σ H s → (∀ b ∈ [z, TO, i1, i2, S], FpOk X pins H b) → s.heap.get? S = some (lstObj acc c) → Vals (ts.map V.ref) acc.toList → ts.length = i → Same H0 H → Prs H0 H ts vx vy →
      codeAny (model X.prog X.w) A (.builtin "list.extend.loop" ⟨[.ref S, .ref z, res], []⟩) R s := by
  have lx : vx.length = xs.size := by have := rx.length; simpa using this
  have ly : vy.length = ys.size := by have := ry.length; simpa using this
  intro m
  induction m with
  | zero =>
    intro i s H ts acc c hm st I fp hS rv hl sm pr
    refine codeAny_builtin F.entry_extend_loop ?_
    rw [Around.under_plainId F.plain_extend_loop _]
    show wpAny _ A.in1 (pyNext (.ref z) >>= _) _ _ s
    have hi : i = n := by omega
    have hend2 : xs[i]? = none ∨ ys[i]? = none := by
      rcases Nat.le_total vx.length vy.length with q | q
      · exact .inl (Array.getElem?_eq_none (by omega))
      · exact .inr (Array.getElem?_eq_none (by omega))
    refine wpAny_bind (zip_over (X := X) hh D st hend2 fun h' k => ?_)
    refine wpAny_pure ?_
    have I2 : Inv X pins σ H { s with heap := h' } := I.turnedL (t' := s.toks) (ch := [z, TO, i1, i2]) k fun b hb => fp b (List.mem_append_left [S] hb)
    have hSn : S ∉ [z, TO, i1, i2] := by simp [off.z, off.TO, off.i1, off.i2]
    exact hend H _ ts acc c I2 fp (k S _ hSn hS) rv (hl.trans hi) sm pr
  | succ m ih =>
    intro i s H ts acc c hm st I fp hS rv hl sm pr
    refine codeAny_builtin F.entry_extend_loop ?_
    rw [Around.under_plainId F.plain_extend_loop _]
    show wpAny _ A.in1 (pyNext (.ref z) >>= _) _ _ s
    have hix : i < xs.size := by omega
    have hiy : i < ys.size := by omega
    have ex := Array.getElem?_eq_getElem hix
    have ey := Array.getElem?_eq_getElem hiy
    have hvx : vx[i]? = some vx[i] := List.getElem?_eq_getElem (by omega)
    have hvy : vy[i]? = some vy[i] := List.getElem?_eq_getElem (by omega)
    refine wpAny_bind (zip_next (X := X) D off (Heap.lt_size hS) st ex ey fun h' k hT hz hst => ?_)
    have hSn : S ∉ [z, TO, i1, i2] := by simp [off.z, off.TO, off.i1, off.i2]
    have hS1 := k S _ hSn hS
    have hasz : acc.size = i := by
      have := rv.length
      rw [List.length_map, hl] at this
      simpa using this.symm
    show wpAny _ A.in1 (updateSeq S (·.push (.ref s.heap.objs.size)) >>= _) _ _ _
    refine wpAny_bind ?_
    refine wpAny_updateSeq hS1 rfl (wpAny_pure ⟨plainId_quiet F.plain_extend_loop _, ?_⟩) (by omega) (by show (acc.push _).size ≤ sizeLine + 1; rw [Array.size_push]; omega)
    have keep3 : ∀ b o, b ≠ S → h'.get? b = some o → (h'.update S (Obj.mapSeq (·.push (.ref s.heap.objs.size)))).get? b = some o := fun b o hbS e => (Heap.get?_update_other _ _ (Ne.symm hbS)).trans e
    have hTS : s.heap.objs.size ≠ S := Nat.ne_of_gt (Heap.lt_size hS)
    have hTn : H s.heap.objs.size = none := I.hok.fresh (Nat.le_refl _)
    have gx : RelV vx[i] xs[i] := by
      obtain ⟨u, hu, r⟩ := rx.get hvx
      have : u = xs[i] := by simpa [ex] using hu.symm
      rw [← this]; exact r
    have gy : RelV vy[i] ys[i] := by
      obtain ⟨u, hu, r⟩ := ry.get hvy
      have : u = ys[i] := by simpa [ey] using hu.symm
      rw [← this]; exact r
    have I2 : Inv X pins σ (upd H s.heap.objs.size (.tup [vx[i], vy[i]])) { s with heap := h'.update S (Obj.mapSeq (·.push (.ref s.heap.objs.size))) } :=
      I.turnedNew (t' := s.toks) (ch := [z, TO, i1, i2, S]) (fun b o hb e => keep3 b o (fun q => hb (by simp [q])) (k b o (fun q => hb (List.mem_append_left [S] q)) e)) fp (Nat.le_refl _)
        ⟨by show 2 ≤ sizeLine; decide, [xs[i], ys[i]], .cons gx (.cons gy .nil), ⟨_, keep3 _ _ hTS hT, rfl, _, rfl⟩⟩
    refine ih (i + 1) _ (upd H s.heap.objs.size (.tup [vx[i], vy[i]])) (ts ++ [s.heap.objs.size]) (acc.push (.ref s.heap.objs.size)) _ (by omega) (hst _ keep3) I2 (fun b hb => ?_) (Heap.get?_update_self _ hS1 rfl) ?_ (by rw [List.length_append, hl]; rfl) (sm.trans (same_new hTn)) ⟨fun j t e => ?_⟩
    · obtain ⟨f1, f2⟩ := fp b hb
      refine ⟨?_, f2⟩
      have hne : b ≠ s.heap.objs.size := by
        obtain ⟨hTI, ⟨o1, e1, _⟩, ⟨o2, e2, _⟩, hl1, hl2, hz'⟩ := st
        have big : ∀ {c o}, s.heap.get? c = some o → c ≠ s.heap.objs.size := fun e => Nat.ne_of_lt (Heap.lt_size e)
        have e' : b = z ∨ b = TO ∨ b = i1 ∨ b = i2 ∨ b = S := by simpa using hb
        rcases e' with q | q | q | q | q
        · rw [q]; rcases hz' with ⟨q1, _⟩ | ⟨_, _, _, q1, _⟩ <;> exact big q1
        · rw [q]; rcases hz' with ⟨_, _, _, q1⟩ | ⟨_, _, _, _, _, _, _, _, _, _, q1⟩ <;> exact big q1
        · rw [q]; exact big e1
        · rw [q]; exact big e2
        · rw [q]; exact hTS.symm
      rw [upd_ne hne]; exact f1
    · rw [List.map_append, Array.toList_push]
      exact rv.append (.cons rfl .nil)
    · by_cases hj : j < ts.length
      · rw [List.getElem?_append_left hj] at e
        obtain ⟨q1, x, y, q2, q3, q4⟩ := pr.at_ j t e
        exact ⟨q1, x, y, q2, q3, upd_old hTn q4⟩
      · rw [List.getElem?_append_right (by omega)] at e
        have e3 : j = i := by
          cases hh : j - ts.length with
          | zero => omega
          | succ k => rw [hh] at e; simp at e
        subst e3
        rw [hl, Nat.sub_self] at e
        cases e
        refine ⟨?_, _, _, hvx, hvy, upd_same⟩
        cases q : H0 s.heap.objs.size with
        | none => rfl
        | some u => rw [sm _ _ q] at hTn; cases hTn
/-- what list(zip(a, b)) gives -/
def tListZip (K : PySem.W.Frag) (ta : TA) : TE := fun σ H Q => ta σ H fun vs H1 => ∃ (a b : Addr) (xs ys : List V), vs = [.ref a, .ref b] ∧ SqL K H1 a xs ∧ SqL K H1 b ys ∧
  ∀ (ts : List Addr) (H2 : Hp) (p : Addr), Same H1 H2 → Prs H1 H2 ts xs ys → ts.length = min xs.length ys.length → H1 p = none → H2 p = some (.lst (ts.map V.ref)) → Q (.ref p) H2
theorem pe_listZip {e e2 : Expr} {ta : TA} {p pos p2 pos2 : Pos} (hc : X.calm = true) (hg : Gl X "list") (hm : X.mg "list" = none) (hgz : Gl X "zip") (hmz : X.mg "zip" = none) (ha : PA X [e, e2] ta)
    (hs : starEach [e, e2] X.env = (false, eval e X.env) :: starEach [e2] X.env := by rfl) (hpl : (backTo pos2 (starEach [e2] X.env)).any (·.1) = false := by rfl)
    (na : starEach [.Call (.Name "zip" p2) [e, e2] [] pos2] X.env = (false, eval (.Call (.Name "zip" p2) [e, e2] [] pos2) X.env) :: starEach [] X.env := by rfl) : PE X (.Call (.Name "list" p) [.Call (.Name "zip" p2) [e, e2] [] pos2] [] pos) (tListZip X.K ta) := by
  refine ⟨fun pins s σ H Q I h => ?_⟩
  refine Call_ (ld_blt I hg hm boot_list (PyProof.Rows.callWith_type1 (args_cons (Call_ (ld_blt I hgz hmz PyProof.Rows.boot_zip (PyProof.Rows.callWith_type1 (thn (ha.run pos2 pins s σ H _ I h) fun us s1 ⟨vs, H1, I1, r1, q1⟩ => ?_) hs hpl))) na) na))
  obtain ⟨a, b, xs, ys, ex, hqx, hqy, q⟩ := q1
  subst ex
  cases r1 with
  | cons r rr =>
    cases rr with
    | cons r' rr =>
      cases rr
      cases r
      cases r'
      obtain ⟨its, rv, p1, z1⟩ := I1.list hqx
      obtain ⟨its2, rv2, p2, z2⟩ := I1.list hqy
      have la : a < s1.heap.objs.size := p1.lt
      have lb : b < s1.heap.objs.size := p2.lt
      refine call_zip_2 p1.isList p2.isList fun h' hz hTI hTO h1 h2 hsz hk => args_nil ?_
      have I2 : Inv X pins σ H1 { s1 with heap := h' } := I1.kept (t' := s1.toks) hk
      have ev : EP X pins σ Q = fun u s' => ∃ v H', Inv X pins σ H' s' ∧ RelV v u ∧ Q v H' := rfl
      generalize hst : ({ heap := h', gens := s1.gens, drawn := s1.drawn, toks := s1.toks, os := s1.os } : Shared) = s2 at I2 ⊢
      have e2 : s2.heap = h' := by rw [← hst]
      have SN : h'.objs.size = s1.heap.objs.size + 5 := hsz
      refine callType_codes (Q₁ := fun obj s₁ => obj = .ref s2.heap.objs.size ∧ s₁ = { s2 with heap := s2.heap.push { cls := .type "list", data := .seq #[] } }) F.called_list (F.typeCall_list_1 _) F.entry_list_init
        (code_list_new _ ⟨rfl, rfl⟩) fun obj s₁ h₁ => ?_
      obtain ⟨rfl, rfl⟩ := h₁
      have hS : (s2.heap.push { cls := .type "list", data := .seq #[] }).get? s2.heap.objs.size = some { cls := .type "list", data := .seq #[] } := Heap.get?_push_size _ rfl
      have k1 : ∀ b o, s2.heap.get? b = some o → (s2.heap.push { cls := .type "list", data := .seq #[] }).get? b = some o := fun b o e => Heap.get?_push_of_some _ e
      have up : ∀ (h : Heap) (f : Obj → Obj), (∀ b o, s2.heap.get? b = some o → h.get? b = some o) → ∀ b o, s2.heap.get? b = some o → (h.update s2.heap.objs.size f).get? b = some o := fun h f q b o e =>
        (Heap.get?_update_other _ _ (Ne.symm (Nat.ne_of_lt (Heap.lt_size e)))).trans (q b o e)
      refine ⟨⟨_, hS, rfl⟩, F.args_list_init_2 _ _, ?_⟩
      show wpAny _ X.A.in1.in1 (do let old ← Builtin.List.listItems (.ref s2.heap.objs.size); Builtin.List.listUpdate (.ref s2.heap.objs.size) (fun _ => #[]); letGo old.toList.reverse; Builtin.List.listExtendWith (.ref s2.heap.objs.size) (.ref (s1.heap.objs.size + 4)) .none) _ _ _
      refine wpAny_bind ?_
      unfold Builtin.List.listItems
      refine wpAny_bind (wpAny_seqItems hS rfl (wpAny_pure ?_))
      show wpAny _ X.A.in1.in1 (updateSeq s2.heap.objs.size (fun _ => #[]) >>= fun _ => letGo (#[] : Array Value).toList.reverse >>= fun _ => Builtin.List.listExtendWith (.ref s2.heap.objs.size) (.ref (s1.heap.objs.size + 4)) .none) _ _ _
      refine wpAny_bind (wpAny_updateSeq hS rfl ?_)
      have hS2 := Heap.get?_update_self (Obj.mapSeq (fun _ => (#[] : Array Value))) hS rfl
      have k2 := up _ (Obj.mapSeq (fun _ => (#[] : Array Value))) k1
      refine wpAny_bind (wpAny_letGo ?_)
      unfold Builtin.List.listExtendWith
      have hz0 : IsZip s2.heap (s1.heap.objs.size + 4) (s1.heap.objs.size + 2) (s1.heap.objs.size + 3) .none := by rw [e2]; exact hz
      refine wpAny_bind (wpAny_typeOf (T := "zip") ⟨_, k2 _ _ hz0, rfl⟩ ?_)
      have hne : s2.heap.objs.size ≠ s1.heap.objs.size + 4 := by rw [e2, SN]; exact fun q => by have : (s1.heap.objs.size + 5 : Nat) = s1.heap.objs.size + 4 := q; omega
      have h1' : Builtin.List.listSameRef (.ref s2.heap.objs.size) (.ref (s1.heap.objs.size + 4)) = false := by simp [Builtin.List.listSameRef, hne]
      have h2' : (Value.type "zip" == Value.type "list") = false := by decide
      have h3' : (Value.type "zip" == Value.type "tuple") = false := by decide
      simp only [h1', h2', h3', Bool.or_false, Bool.false_eq_true, if_false]
      refine wpAny_bind (wpAny_pyIter_zip (k2 _ _ hz0) ?_)
      refine wpAny_bind (wpAny_holding ?_)
      unfold Builtin.List.listLengthHint
      refine wpAny_bind (wpAny_specialOf (T := "zip") ⟨_, k2 _ _ hz0, rfl⟩ zipNoLen ?_)
      show wpAny _ X.A.in1.in1 (specialOf (Value.ref (s1.heap.objs.size + 4)) (Str.ofString "__length_hint__") >>= _) _ _ _
      refine wpAny_bind (wpAny_specialOf (T := "zip") ⟨_, k2 _ _ hz0, rfl⟩ zipNoHint ?_)
      refine wpAny_pure ?_
      have key : ∀ (h : Heap) (c : Nat), (∀ b o, s2.heap.get? b = some o → h.get? b = some o) → h.get? s2.heap.objs.size = some (lstObj #[] c) →
          codeAny (model X.prog X.w) X.A.in1 (.builtin "list.extend.loop" ⟨[.ref s2.heap.objs.size, .ref (s1.heap.objs.size + 4), .none], []⟩) (wants (fun r s₂ => r = Value.none ∧ EP X pins σ Q (Value.ref s2.heap.objs.size) s₂) X.xe) { s2 with heap := h } := by
        intro h c k hSc
        have SN2 : s2.heap.objs.size = s1.heap.objs.size + 5 := by rw [e2]; exact SN
        have I3 : Inv X pins σ H1 { s2 with heap := h } := I2.kept (t' := s2.toks) k
        have kk : ∀ b o, h'.get? b = some o → h.get? b = some o := fun b o e => k b o (by rw [e2]; exact e)
        have fr : ∀ b, s1.heap.objs.size ≤ b → FpOk X pins H1 b := fun b hb => I1.fpOk hb (I1.hok.fresh hb)
        have off : ZOff (s1.heap.objs.size + 4) (s1.heap.objs.size + 2) (s1.heap.objs.size + 3) s1.heap.objs.size (s1.heap.objs.size + 1) a b s2.heap.objs.size := by
          rw [SN2]
          have la' : (a : Nat) < s1.heap.objs.size := la
          have lb' : (b : Nat) < s1.heap.objs.size := lb
          constructor <;> first | exact Nat.ne_of_gt (Nat.lt_of_lt_of_le la' (Nat.le_add_right _ _)) | exact Nat.ne_of_gt (Nat.lt_of_lt_of_le lb' (Nat.le_add_right _ _)) | (intro q; have q' : (s1.heap.objs.size + 5 : Nat) = _ := q; omega)
        refine zip_drain (X := X) (A := X.A.in1) (pins := pins) (σ := σ) (H0 := H1) (vx := xs) (vy := ys) (n := min xs.length ys.length) (xs := its.toArray) (ys := its2.toArray) (show X.A.in1.handled = none from I1.ok.hd hc) (PySem.W.ktu_apart s1.heap.objs.size a b la lb) off (by simpa using rv) (by simpa using rv2) rfl (Nat.le_trans (Nat.min_le_left _ _) z1)
          (fun H4 s4 ts acc c4 I4 fp4 hS4 rv4 hl4 sm4 pr4 => ?_) (min xs.length ys.length) 0 _ H1 [] #[] c rfl
          ⟨kk _ _ hTI, h1.at fun o e => kk _ o e, h2.at fun o e => kk _ o e, p1.isList.at fun o e => kk _ o (hk _ o e), p2.isList.at fun o e => kk _ o (hk _ o e), .inl ⟨kk _ _ hz, _, _, kk _ _ hTO⟩⟩ I3 (fun d hd => fr d ?_) hSc .nil rfl (Same.refl H1) ⟨fun j t e => by simp at e⟩
        · refine ⟨rfl, .ref s2.heap.objs.size, upd H4 s2.heap.objs.size (.lst (ts.map V.ref)), ?_, rfl, q ts _ s2.heap.objs.size (sm4.trans (same_new ?_)) ⟨fun j t e => ?_⟩ hl4 (I1.hok.fresh (by rw [SN2]; exact Nat.le_add_right _ _)) upd_same⟩
          · have fS := fp4 s2.heap.objs.size (by simp)
            have hSn : H4 s2.heap.objs.size = none := fS.1
            refine I4.call' (ch := [s2.heap.objs.size]) rfl ⟨fun b o q _ _ _ => q, fun b o q _ _ _ => ⟨o.slots, q⟩, fun b o q n hb => ?_, fun b o q _ => ⟨o, q⟩, fun b xs q => ?_, fun b o y q => ?_, fun b qs q => ⟨#[], ?_⟩⟩ (fun b u q => ?_) I4.bare (fun b hb => ?_)
            · rw [upd_ne fun q => hb (by rw [q]; exact List.mem_singleton.mpr rfl)]; exact n
            · rw [upd_ne (ne_of_none q hSn)]; exact q
            · rw [upd_ne (ne_of_none q hSn)]; exact q
            · rw [upd_ne (ne_of_none q hSn), q]; simp
            · by_cases hb : b = s2.heap.objs.size
              · subst hb
                rw [upd_same] at q
                cases q
                exact ⟨by rw [List.length_map, hl4]; exact Nat.le_trans (Nat.min_le_left _ _) z1, acc.toList, c4, rv4, by rw [hS4]⟩
              · rw [upd_ne hb] at q
                exact (I4.hok b u q).stay (fun _ _ _ z => z) (fun d z => by rw [upd_ne (ne_of_none z hSn)]; exact z) fun d xs z => by rw [upd_ne (ne_of_none z hSn)]; exact z
            · rw [List.mem_singleton.mp hb]
              exact ⟨fS.2.2.2.1, fS.2.1, fS.2.2.2.2.1, fS.2.2.2.2.2⟩
          · exact (fp4 s2.heap.objs.size (by simp)).1
          · obtain ⟨q1, x, y, q2, q3, q4⟩ := pr4.at_ j t e
            exact ⟨q1, x, y, q2, q3, upd_old (fp4 s2.heap.objs.size (by simp)).1 q4⟩
        · have hd' : d = s1.heap.objs.size + 4 ∨ d = s1.heap.objs.size + 3 ∨ d = s1.heap.objs.size ∨ d = s1.heap.objs.size + 1 ∨ d = s2.heap.objs.size := by simpa using hd
          rcases hd' with q | q | q | q | q
          · rw [q]; exact Nat.le_add_right _ _
          · rw [q]; exact Nat.le_add_right _ _
          · rw [q]; exact Nat.le_refl _
          · rw [q]; exact Nat.le_add_right _ _
          · rw [q, SN2]; exact Nat.le_add_right _ _
      simp only [Bool.true_or, if_true]
      refine wpAny_bind (wpAny_rule ?_)
      refine wpAny_bind ?_
      show wpAny _ _ (updateSeq s2.heap.objs.size (·.push .none) >>= fun _ => updateSeq s2.heap.objs.size (·.pop)) _ _ _
      refine wpAny_bind (wpAny_updateSeq hS2 rfl ?_)
      have hS3 := Heap.get?_update_self (Obj.mapSeq (·.push Value.none)) hS2 rfl
      refine wpAny_updateSeq (hz := by seq_fits) hS3 rfl ?_
      have hS4 := Heap.get?_update_self (Obj.mapSeq (·.pop)) hS3 rfl
      have k4 := up _ (Obj.mapSeq (·.pop)) (up _ (Obj.mapSeq (·.push Value.none)) k2)
      exact wpAny_pure ⟨plainId_quiet F.plain_extend_loop _, key _ _ k4 hS4⟩
end
theorem pe_listZipK (K : PySem.W.Frag) {X : Cx} {e e2 : Expr} {ta : TA} {p pos p2 pos2 : Pos} (hc : X.calm = true) (hg : Gl X "list") (hm : X.mg "list" = none) (hgz : Gl X "zip") (hmz : X.mg "zip" = none) (ha : PA X [e, e2] ta) (hK : X.K = K := by rfl)
    (hs : starEach [e, e2] X.env = (false, eval e X.env) :: starEach [e2] X.env := by rfl) (hpl : (backTo pos2 (starEach [e2] X.env)).any (·.1) = false := by rfl)
    (na : starEach [.Call (.Name "zip" p2) [e, e2] [] pos2] X.env = (false, eval (.Call (.Name "zip" p2) [e, e2] [] pos2) X.env) :: starEach [] X.env := by rfl) : PE X (.Call (.Name "list" p) [.Call (.Name "zip" p2) [e, e2] [] pos2] [] pos) (tListZip K ta) :=
  hK ▸ pe_listZip hc hg hm hgz hmz ha hs hpl na
section
variable {K : PySem.W.Frag} {σ : L2.St} {H : Hp} {Q : VK} {ta : TA}
theorem r_lzip (h : ta σ H fun vs H1 => ∃ (a b : Addr) (xs ys : List V), vs = [.ref a, .ref b] ∧ SqL K H1 a xs ∧ SqL K H1 b ys ∧
  ∀ (ts : List Addr) (H2 : Hp) (p : Addr), Same H1 H2 → Prs H1 H2 ts xs ys → ts.length = min xs.length ys.length → H1 p = none → H2 p = some (.lst (ts.map V.ref)) → Q (.ref p) H2) : tListZip K ta σ H Q := h
theorem r_listG {tg : TGen} (h : tg σ H fun out H2 => ∀ p, H2 p = none → Q (.ref p) (upd H2 p (.lst out))) : tListG tg σ H Q := h
theorem r_callGn {sp : SpG} {dvs : List V} {E : XK} {cont : List V → Hp → Prop} (h : ta σ H fun vs H1 => sp (vs ++ dvs) H1 cont E) : tCallG sp dvs E ta σ H cont := h
end
end Xk
local macro_rules | `(tactic| fail "one") => `(tactic| with_reducible first | refine Xk.r_lzip ?_ | refine Xk.r_listG ?_ | refine Xk.r_callGn ?_)

set_option Elab.async false
set_option linter.all false
set_option maxRecDepth 100000
namespace Xk
open PySem PySem.Spec PyProof.Rows L2
/-- a new object; the heap behind it is any that keeps all and has it -/
def New (Q : VK) (H : Hp) (o : HO) : Prop := ∀ p, H p = none → Q (.ref p) (upd H p o)
section
variable {K : PySem.W.Frag} {σ : L2.St} {H : Hp} {Q : VK} {o : HO} {tA : TA} {te : TE} {p b : Addr} {xs ys : List V} {ns ms : List Int}
theorem new_ (h : ∀ (p : Addr) (H' : Hp), H p = none → Same H H' → H' p = some o → Q (.ref p) H') : New Q H o := fun p np => h p _ np (same_new np) upd_same
theorem n_lst (h : tA σ H fun xs H1 => xs.length ≤ sizeLine ∧ New Q H1 (.lst xs)) : tLst tA σ H Q := h
theorem n_tup (h : tA σ H fun xs H1 => xs.length ≤ sizeLine ∧ New Q H1 (.tup xs)) : tTup tA σ H Q := h
theorem n_slL {lo hi : Option Int} (h : SqL K H p xs) (q : New Q H (.lst (cutV xs lo hi))) : rSlL K (.ref p) lo hi H Q := ⟨p, xs, rfl, h, q⟩
theorem n_slF {z : Int} {a : Nat} (h : SqL K H p (ns.map V.int)) (e : z = (a : Int)) (q : New Q H (.lst ((ns.drop a).map V.int))) : rSlL K (.ref p) (some z) none H Q :=
  n_slL h (by rw [cut_from e, ← List.map_drop]; exact q)
theorem n_slT {z : Int} {a : Nat} (h : SqL K H p (ns.map V.int)) (e : z = (a : Int)) (q : New Q H (.lst ((ns.take a).map V.int))) : rSlL K (.ref p) none (some z) H Q :=
  n_slL h (by rw [cut_to e, ← List.map_take]; exact q)
theorem n_slM {z y : Int} {a c : Nat} (h : SqL K H p (ns.map V.int)) (e : z = (a : Int)) (g : y = (c : Int)) (q : New Q H (.lst (((ns.drop a).take (c - a)).map V.int))) : rSlL K (.ref p) (some z) (some y) H Q :=
  n_slL h (by rw [cut_any e g, ← List.map_drop, ← List.map_take]; exact q)
theorem n_listOf (h : SqL K H p xs) (q : New Q H (.lst xs)) : rListOf K [.ref p] H Q := ⟨p, xs, rfl, .inl h, q⟩
theorem n_lrg {tr : L2.St → Hp → (Int → Int → Hp → Prop) → Prop} (h : tr σ H fun a b H1 => RgOk a b ∧ New Q H1 (.lst (rgV a b))) : tLstRg tr σ H Q := h
theorem n_revL (h : te σ H fun x H1 => ∃ a xs, x = .ref a ∧ SqL K H1 a xs ∧ New Q H1 (.lst xs.reverse)) : tRevL K te σ H Q := h
theorem n_cat (h : H p = some (.lst xs)) (g : H b = some (.lst ys)) (hz : xs.length + ys.length ≤ sizeLine) (q : New Q H (.lst (xs ++ ys))) : rCat (.ref p) (.ref b) H Q := ⟨p, b, xs, ys, rfl, rfl, h, g, hz, q⟩
theorem n_catI (h : H p = some (.lst (ns.map V.int))) (g : H b = some (.lst (ms.map V.int))) (hz : ns.length + ms.length ≤ 16777216) (q : New Q H (.lst ((ns ++ ms).map V.int))) : rCat (.ref p) (.ref b) H Q :=
  n_cat h g (by rw [List.length_map, List.length_map]; exact hz) (by rw [← List.map_append]; exact q)
theorem s_trans {H0 H1 H2 : Hp} (b : Same H1 H2) (a : Same H0 H1) : Same H0 H2 := a.trans b
theorem s_new {H0 H : Hp} {a : Addr} {o : HO} (np : H a = none) (s : Same H0 H) : Same H0 (upd H a o) := s.trans (same_new np)
theorem sq_new {K : PySem.W.Frag} {H : Hp} {a b : Addr} {o : HO} {xs : List V} (np : H a = none) (s : SqL K H b xs) : SqL K (upd H a o) b xs := (same_new np).seq s
theorem ne_n {H : Hp} {a b : Addr} {u : HO} (n : H b = none) (h : H a = some u) : a ≠ b := ne_of_none h n
theorem ne_n' {H : Hp} {a b : Addr} {u : HO} (n : H a = none) (h : H b = some u) : a ≠ b := (ne_of_none h n).symm
theorem c_chain {r r' : R2} {ta tb tc : TE} {σ : L2.St} {H : Hp} {Q : VK} (h : ta σ H fun x H1 => tb σ H1 fun y H2 => r x y H2 fun z H3 => ∃ k, z = .bl k ∧ (if k = true then tc σ H3 fun w' H4 => r' y w' H4 Q else Q (.bl false) H3)) : tChain r r' ta tb tc σ H Q := h
theorem n_rep {l : Addr} {n : Nat} {zs : List V} (h : H l = some (.lst zs)) (hn : n ≤ 1000000) (hz : zs.length * n ≤ 16777216) (q : New Q H (.lst (List.replicate n zs).flatten)) : rRep (.ref l) (.int (n : Int)) H Q :=
  ⟨l, n, zs, rfl, rfl, h, by omega, by omega, by rw [Int.toNat_natCast]; exact hz, fun p np => by rw [Int.toNat_natCast]; exact q p np⟩
theorem new_map {xs : List Int} {u : List V} (e : u = xs.map V.int) (h : New Q H (.lst (xs.map V.int))) : New Q H (.lst u) := e ▸ h
end
end Xk
/-- what stands in a heap, and what keeps: back along the one step that made each heap -/
local macro_rules | `(tactic| fail "kp") => `(tactic| with_reducible first
  | assumption | exact L2.upd_same | exact L2.Same.refl _
  | (apply Xk.same_to; assumption; fail "kp")
  | (apply L2.Same.seq; assumption; fail "kp")
  | (apply Xk.sx_to; assumption; fail "kpn"; fail "kp")
  | (apply Xk.upd_old; assumption; fail "kp")
  | (apply Xk.upd_to; fail "kpn"; fail "kp")
  | (apply Xk.s_trans; assumption; fail "kp")
  | (apply Xk.s_new; assumption; fail "kp")
  | (apply Xk.sq_new; assumption; fail "kp")
  | (apply Xk.sqT_same; assumption; fail "kp")
  | (apply Xk.sq; fail "kp")
  | (apply Xk.sqT; fail "kp"))
/-- another address -/
local macro_rules | `(tactic| fail "kpn") => `(tactic| with_reducible first | assumption | (apply Ne.symm; assumption) | (apply Xk.ne_n; assumption; fail "kp") | (apply Xk.ne_n'; assumption; fail "kp"))
local macro_rules | `(tactic| fail "ww1") => `(tactic| with_reducible first
  | refine Xk.c_chain ?_ | refine Xk.n_lst ?_ | refine Xk.n_tup ?_ | refine Xk.n_lrg ?_ | refine Xk.n_revL ?_)
local macro_rules | `(tactic| fail "ww2") => `(tactic| first
  | ((with_reducible refine' Xk.r_var ?hv ?_); (case hv => exact rfl))
  | ((with_reducible refine' Xk.r_aug ?hv ?_); (case hv => exact rfl))
  | ((with_reducible refine' Xk.r_ixL ?hv ?hw ?_); (case hv => fail "kp"); (case hw => fail "at"))
  | ((with_reducible refine' Xk.r_setL ?hv ?hw ?_); (case hv => fail "kp"); (case hw => fail "ix"))
  | ((with_reducible refine' Xk.r_gtup ?hv ?hw ?_); (case hv => exact Xk.sqT (by fail "kp")); (case hw => exact rfl))
  | ((with_reducible refine' ⟨Xk.ty_list (K := _) (xs := _) ?hv, ?_⟩); (case hv => fail "kp"))
  | ((with_reducible refine' Xk.r_append ?hv ?hw ?_); (case hv => fail "kp"); (case hw => fail "sd"))
  | ((with_reducible refine' Xk.r_I (C := fun _ j => 0 < j) ?hv ?_); (case hv => (first | omega | (show (0 : Int) < _; omega) | decide)))
  | ((with_reducible refine' Xk.r_len ?hv ?_); (case hv => fail "kp"))
  | ((with_reducible refine' Xk.n_listOf ?hv ?_); (case hv => fail "kp"))
  | ((with_reducible refine' Xk.r_I (C := Xk.CPowW) ?hv ?_); (case hv => exact ⟨by decide, by decide⟩))
  | (with_reducible refine ⟨Xk.szL (by with_unfolding_all rfl), ?_⟩)
  | ((with_reducible refine' ⟨_, _, rfl, ?hv, ?_⟩); (case hv => ((with_reducible show L2.SqL _ _ _ _); fail "kp")))
  | (with_reducible refine ⟨_, _, _, _, rfl, Xk.sq (by fail "kp"), Xk.sq (by fail "kp"), ?_⟩)
  | ((with_reducible refine' ⟨⟨_, ?hv⟩, ?_⟩); (case hv => ((with_reducible show L2.SqL _ _ _ _); fail "kp")))
  | (with_reducible refine Or.inl ⟨_, rfl, ?_⟩) | (with_reducible refine Or.inr ⟨_, rfl, ?_⟩)
  | (with_reducible refine ⟨_, _, rfl, rfl, ?_⟩) | (with_reducible refine ⟨_, rfl, ?_⟩) | (with_reducible refine ⟨_, _, rfl, ?_⟩))
local macro_rules | `(tactic| fail "ww") => `(tactic| repeat (first | fail "ww1" | fail "one" | fail "ww2"))

set_option Elab.async false
set_option linter.all false
set_option maxRecDepth 100000
namespace Xk
open PySem PySem.Spec PyProof.Rows L2
/-! ### a op1 b op2 c op3 d -/
section
variable {X : Cx} {a b c d : Expr} {ta tb tc td : TE} {pos : Pos}
def tChain3 (r r' r'' : R2) (ta tb tc td : TE) : TE := fun σ H Q => ta σ H fun x H1 => tb σ H1 fun y H2 => r x y H2 fun z H3 => ∃ k, z = .bl k ∧
  (if k = true then tc σ H3 fun w H4 => r' y w H4 fun z2 H5 => ∃ k2, z2 = .bl k2 ∧ (if k2 = true then td σ H5 fun u H6 => r'' w u H6 Q else Q (.bl false) H5) else Q (.bl false) H3)
theorem pt_chain3 {op op' op2 : CmpOp} {r r' r'' : R2} (ho : OpR X (compareOp op) r) (ho' : OpR X (compareOp op') r') (ho2 : OpR X (compareOp op2) r'') (ha : PE X a ta) (hb : PE X b tb) (hc : PE X c tc) (hd : PE X d td)
    (hm : lastMarks [op, op', op2] [b, c, d] = false := by with_unfolding_all rfl) : PT X (.Compare a [op, op', op2] [b, c, d] pos) (tTest (tChain3 r r' r'' ta tb tc td)) := by
  refine ⟨fun pins s σ H Q I h => ?_⟩
  refine isTrue_chain (thn (ha.run pins s σ H _ I h) fun v s1 ⟨x, H1, I1, r1, q1⟩ => test_link (thn (hb.run pins s1 σ H1 _ I1 q1) fun u s2 ⟨y, H2, I2, r2, q2⟩ =>
    thn (ho pins s2 σ H2 x y v u _ I2 r1 r2 q2) fun d s3 ⟨z, H3, I3, r3, k, e, q3⟩ => ?_)) hm
  subst e
  cases r3
  refine wpAny_truthy_bool ?_
  cases k with
  | false =>
    obtain ⟨k', e', q'⟩ := q3
    cases e'
    exact ite_ff ⟨H3, I3, q'⟩
  | true =>
    refine ite_tt (test_link (thn (hc.run pins s3 σ H3 _ I3 q3) fun w' s4 ⟨z', H4, I4, r4, q4⟩ => thn (ho' pins s4 σ H4 y z' u w' _ I4 r2 r4 q4) fun d' s5 ⟨z2, H5, I5, r5, k2, e2, q5⟩ => ?_))
    subst e2
    cases r5
    refine wpAny_truthy_bool ?_
    cases k2 with
    | false =>
      obtain ⟨k', e', q'⟩ := q5
      cases e'
      exact ite_ff ⟨H5, I5, q'⟩
    | true =>
      refine ite_tt (test_last (thn (hd.run pins s5 σ H5 _ I5 q5) fun w2 s6 ⟨z6, H6, I6, r6, q6⟩ => thn (ho2 pins s6 σ H6 z' z6 w' w2 _ I6 r4 r6 q6) fun d' s7 ⟨z3, H7, I7, r7, k3, e3, q7⟩ => ?_))
      subst e3
      cases r7
      exact wpAny_truthy_bool ⟨H7, I7, q7⟩
theorem pe_chain3 {op op' op2 : CmpOp} {r r' r'' : R2} (ho : OpR X (compareOp op) r) (ho' : OpR X (compareOp op') r') (ho2 : OpR X (compareOp op2) r'') (ha : PE X a ta) (hb : PE X b tb) (hc : PE X c tc) (hd : PE X d td)
    (hm : lastMarks [op, op', op2] [b, c, d] = false := by with_unfolding_all rfl) : PE X (.Compare a [op, op', op2] [b, c, d] pos) (tChain3 r r' r'' ta tb tc td) := by
  refine ⟨fun pins s σ H Q I h => ?_⟩
  refine Compare_chain (thn (ha.run pins s σ H _ I h) fun v s1 ⟨x, H1, I1, r1, q1⟩ => chain_link (thn (hb.run pins s1 σ H1 _ I1 q1) fun u s2 ⟨y, H2, I2, r2, q2⟩ =>
    thn (ho pins s2 σ H2 x y v u _ I2 r1 r2 q2) fun d s3 ⟨z, H3, I3, r3, k, e, q3⟩ => ?_)) hm
  subst e
  cases r3
  refine wpAny_truthy_bool ?_
  cases k with
  | false => exact ite_ff ⟨.bl false, H3, I3, rfl, q3⟩
  | true =>
    refine ite_tt (chain_link (thn (hc.run pins s3 σ H3 _ I3 q3) fun w' s4 ⟨z', H4, I4, r4, q4⟩ => thn (ho' pins s4 σ H4 y z' u w' _ I4 r2 r4 q4) fun d' s5 ⟨z2, H5, I5, r5, k2, e2, q5⟩ => ?_))
    subst e2
    cases r5
    refine wpAny_truthy_bool ?_
    cases k2 with
    | false => exact ite_ff ⟨.bl false, H5, I5, rfl, q5⟩
    | true => exact ite_tt (chain_last (thn (hd.run pins s5 σ H5 _ I5 q5) fun w2 s6 ⟨z6, H6, I6, r6, q6⟩ => ho2 pins s6 σ H6 z' z6 w' w2 Q I6 r4 r6 q6))
theorem c_chain3 {r r' r'' : R2} {σ : L2.St} {H : Hp} {Q : VK} (h : ta σ H fun x H1 => tb σ H1 fun y H2 => r x y H2 fun z H3 => ∃ k, z = .bl k ∧
  (if k = true then tc σ H3 fun w H4 => r' y w H4 fun z2 H5 => ∃ k2, z2 = .bl k2 ∧ (if k2 = true then td σ H5 fun u H6 => r'' w u H6 Q else Q (.bl false) H5) else Q (.bl false) H3)) : tChain3 r r' r'' ta tb tc td σ H Q := h
end
end Xk
local macro_rules | `(tactic| fail "ww1") => `(tactic| with_reducible refine Xk.c_chain3 ?_)

set_option Elab.async false
set_option linter.all false
set_option maxRecDepth 100000
set_option maxHeartbeats 20000000
namespace Xk
open PySem PySem.Spec PyProof.Rows L2
/-! ### defs that raise -/
section
variable {P : Program} {w : World} {K : PySem.W.Frag} {mg : Str → Option Value} {B : Heap} {n : Nat} {g : Addr} {fd : FuncData} {ps : List Str} {sp sp2 : Sp}
/-- what raises nothing, where something may -/
theorem FnG.lift (F : FnG P w K mg B L2.CX0 n g fd ps sp) : FnG P w K mg B (L2N.CX P w) n g fd ps sp :=
  ⟨F.cnt, fun A ou t H ar us vs Q E hG room env bi rv hs => codeAny_mono (F.go A ou t H ar us vs Q E hG room env bi rv hs) fun r s' y => by
    match r, y with
    | .error e, y => exact y.elim
    | .ok (.ret u), y => exact y
    | .ok .next, y => exact y
    | .ok .brk, y => exact y
    | .ok .cont, y => exact y⟩
theorem FnG.up {CX : CXT} {m : Nat} (F : FnG P w K mg B CX n g fd ps sp) (h : n ≤ m) : FnG P w K mg B CX m g fd ps sp :=
  ⟨F.cnt, fun A ou t H ar us vs Q E hG room => F.go A ou t H ar us vs Q E hG (room.mono h)⟩
/-- either promise -/
def spOr (sp sp2 : Sp) : Sp := fun vs H Q E => sp vs H Q E ∨ sp2 vs H Q E
theorem FnG.or {CX : CXT} (F : FnG P w K mg B CX n g fd ps sp) (F2 : FnG P w K mg B CX n g fd ps sp2) : FnG P w K mg B CX n g fd ps (spOr sp sp2) :=
  ⟨fun vs H Q E h => h.elim (F.cnt vs H Q E) (F2.cnt vs H Q E), fun A ou t H ar us vs Q E hG room env bi rv hs => hs.elim (F.go A ou t H ar us vs Q E hG room env bi rv) (F2.go A ou t H ar us vs Q E hG room env bi rv)⟩
end
section
variable {P : Program} {w : World} {K : PySem.W.Frag} {mg : Str → Option Value} {base : Heap}
/-- as okG, for a def that may raise -/
theorem okX {x qual : Str} {st : Stmt} {f : Addr} {fd : FuncData} {N ps : List Str} {k : Nat} {sp : Sp} (F : Fun K x qual st f fd) (S : FnScope N ps (defScope st)) (cnt : ∀ vs H Q E, sp vs H Q E → vs.length = ps.length)
    (body : ∀ (cdv : Value) (A : Around) (ou : List Env) (t : Shared) (H : Hp) (vs : List V) (Q : VK) (E : XK), A.guards = some [] → Room k (A.deeper (envOfC qual (defScope st) t.heap.objs.size f cdv)) → sp vs H Q E →
      ∃ r, PSs (cxOf (L2N.CX P w) P w K mg base N qual (defScope st) f cdv A ou t H E) (defBody st) r ∧ r ⟨fun _ H' => Q .non H', Q, fun _ _ => False, fun _ _ => False⟩ (L2.start N vs) H) : FnG P w K mg base (L2N.CX P w) (k + 1) f fd ps sp := by
  obtain ⟨oc, od, kV, doc, pm, an, cdv, ct, osl, rfl, lk, hcd⟩ := F.ex
  exact fnG_of lk hcd S cnt fun A ou t H vs Q E hG hr hsp => body cdv A ou t H vs Q E hG hr hsp
end
/-! ### the call of such a def -/
section
variable {X : Cx} {W : WX} {n : Nat} {g : Addr} {fd : FuncData} {ps ks : List Str} {sp : Sp} {x : Str} {p pos : Pos} {e : Expr} {es : List Expr} {kws : List Keyword} {t tk : TA}
theorem endX {pins : List (Addr × Obj)} {σ : L2.St} {H : Hp} {s s' : Shared} {Q : VK} {r : Result} (tk : L2N.Takes X W) (I : Inv X pins σ H s)
    (z : CR (L2N.CX X.prog X.w) X.stack X.prog X.w H s Q (WE W σ) r s') :
    (match r with | .ok (.ret u) => EP X pins σ Q u s' | .ok _ => False | .error er => X.xe er s') := by
  match r, z with
  | .error er, z => exact L2N.passAt tk σ pins H s er s' I z
  | .ok (.ret u), z => exact I.after z
  | .ok .next, z => exact z.elim
  | .ok .brk, z => exact z.elim
  | .ok .cont, z => exact z.elim
theorem goX {pins : List (Addr × Obj)} {σ : L2.St} {H : Hp} {s : Shared} {Q : VK} {us : List Value} {vs : List V} (F : FnG X.prog X.w X.K X.mg X.base (L2N.CX X.prog X.w) n g fd ps sp)
    (hG : X.A.guards = some []) (room : Room n X.A) (bi : Binds X.K fd ps []) (tk : L2N.Takes X W) (I : Inv X pins σ H s) (rv : Vals vs us) (z : sp vs H Q (WE W σ)) :
    wpAny (model X.prog X.w) X.A (PySem.call (.ref g) us) (EP X pins σ Q) X.xe s := by
  have hlen : us.length = ps.length := rv.length ▸ F.cnt _ _ _ _ z
  have b := bi s us I.kIn (by rw [List.append_nil]; exact hlen)
  rw [List.append_nil] at b
  exact wpAny_call (codeAny_mono (F.go X.A X.stack s H ⟨us, []⟩ _ _ Q (WE W σ) hG room I.env0 b rv z) fun r s' y => by
    have := endX tk I y
    revert this
    cases r with
    | error _ => exact id
    | ok fl => cases fl <;> exact id)
def tCallX (sp : Sp) (W : WX) (t : TA) : TE := fun σ H Q => t σ H fun vs H1 => sp vs H1 Q fun cls d H' => W cls d σ H'
theorem pe_callX (F : FnG X.prog X.w X.K X.mg X.base (L2N.CX X.prog X.w) n g fd ps sp) (hG : X.A.guards = some []) (room : Room n X.A) (gx : Gl X x) (at' : X.mg x = some (.ref g)) (kp : PySem.W.keepIn X.K (.ref g) = true)
    (bi : Binds X.K fd ps []) (tk : L2N.Takes X W) (ha : PA X (e :: es) t) (hdb : (x == ("__debug__" : Str)) = false := by decide)
    (he : starEach (e :: es) X.env = (false, eval e X.env) :: starEach es X.env := by rfl) (hpl : (backTo pos (starEach es X.env)).any (·.1) = false := by rfl) : PE X (.Call (.Name x p) (e :: es) [] pos) (tCallX sp W t) :=
  ⟨fun pins s σ H Q I z => wpAny_Call_Name_kw (ld_glob I gx at'
    (PySem.W.callWith_K (h₀ := X.base) I.ok.mod.kin kp (thn (ha.run pos pins s σ H _ I z) fun us s1 ⟨vs, H1, I1, r, q⟩ => ⟨I1.kIn, goX F hG room bi tk I1 r q⟩) he hpl) hdb)⟩
variable {ff : List Value → List Value → List Value} {fV : List V → List V → List V}
theorem goXK {pins : List (Addr × Obj)} {σ : L2.St} {H : Hp} {s : Shared} {Q : VK} {us ws : List Value} {vs zs : List V} (F : FnG X.prog X.w X.K X.mg X.base (L2N.CX X.prog X.w) n g fd ps sp)
    (hG : X.A.guards = some []) (room : Room n X.A) (bi : KBinds X.K fd ps ks ff fV) (tk : L2N.Takes X W) (I : Inv X pins σ H s) (rv : Vals vs us) (rw' : Vals zs ws) (z : sp (fV vs zs) H Q (WE W σ)) :
    wpAny (model X.prog X.w) X.A (PySem.call (.ref g) us (ks.zip ws)) (EP X pins σ Q) X.xe s := by
  have rv2 := bi.rel rv rw'
  have hlen : (ff us ws).length = ps.length := rv2.length ▸ F.cnt _ _ _ _ z
  exact wpAny_call (codeAny_mono (F.go X.A X.stack s H ⟨us, ks.zip ws⟩ _ _ Q (WE W σ) hG room I.env0 (bi.to s us ws I.kIn hlen) rv2 z) fun r s' y => by
    have := endX tk I y
    revert this
    cases r with
    | error _ => exact id
    | ok fl => cases fl <;> exact id)
def tCallXK (sp : Sp) (fV : List V → List V → List V) (W : WX) (t tk : TA) : TE := fun σ H Q => t σ H fun vs H1 => tk σ H1 fun zs H2 => sp (fV vs zs) H2 Q fun cls d H' => W cls d σ H'
theorem pe_callXK0 (F : FnG X.prog X.w X.K X.mg X.base (L2N.CX X.prog X.w) n g fd ps sp) (hG : X.A.guards = some []) (room : Room n X.A) (gx : Gl X x) (at' : X.mg x = some (.ref g)) (kp : PySem.W.keepIn X.K (.ref g) = true)
    (bi : KBinds X.K fd ps ks ff fV) (tw : L2N.Takes X W) (hkw : PK X kws tk) (hdb : (x == ("__debug__" : Str)) = false := by decide)
    (all' : (backToKw pos (keywordEach kws X.env)).all (·.1.isSome) = true := by rfl) (nms : (backToKw pos (keywordEach kws X.env)).filterMap (·.1) = ks := by rfl)
    (hpl : ((backTo pos (starEach [] X.env)).any (·.1) || (backToKw pos (keywordEach kws X.env)).any (·.1.isNone)) = false := by rfl) :
    PE X (.Call (.Name x p) [] kws pos) (tCallXK sp fV W tNil tk) := by
  subst nms
  exact ⟨fun pins s σ H Q I z => wpAny_Call_Name_kw (ld_glob I gx at'
    (PySem.W.callWith_KW0 (h₀ := X.base) I.ok.mod.kin kp all' (thn (hkw.run pos pins s σ H _ I z) fun ws s2 ⟨zs, H2, I2, rz, q2⟩ => ⟨I2.kIn, goXK F hG room bi tw I2 .nil rz q2⟩) hpl) hdb)⟩
end
/-! ### an error class with one field, "value" -/
/-- x stands for the class at C; S is the class that clauses name -/
structure ErrC (K : PySem.W.Frag) (mg : Str → Option Value) (x : Str) (S C fI : Addr) : Prop where
  gC : mg x = some (.ref C)
  ox : OexC K C
  iC : PySem.W.findIn K (.ref C) "__init__" = some (some (.ref fI))
  tI : PySem.W.typeIn K (.ref fI) = some (.type "function")
  xf : XfC K C
  no : PySem.W.findIn K (.ref C) "value" = some none
  te : PySem.W.exmOne K (.ref C) (.ref S) = some true
/-- __init__(self, value): self.value = value -/
def spIni (K : PySem.W.Frag) (C : Addr) : Sp := fun vs H Q _ => ∃ (a : Addr) (y : V), vs = [.ref a, y] ∧ OexC K C ∧ PySem.W.findIn K (.ref C) "value" = some none ∧ H a = some (exo a C none) ∧
  ∀ dx, H dx = none → dx ≠ a → Q .non (upd (upd H dx (exd dx [(("value" : Str), y)])) a (exo a C (some dx)))
theorem ini_read {K : PySem.W.Frag} {C : Addr} {vs : List V} {H : Hp} {Q : VK} {E : XK} (h : spIni K C vs H Q E) :
    tSeq (tOst K "value" (tVar 0) (tVar 1)) tNext { nx := fun _ H' => Q .non H', rt := Q } (L2.start ["self", "value"] vs) H := by
  obtain ⟨a, y, rfl, T, no, e, q⟩ := h
  exact ⟨_, rfl, _, rfl, a, C, rfl, T, no, .inl ⟨e, fun dx n ne => q dx n ne⟩⟩
/-- C(e) -/
def tMkV (C : Addr) (ta : TA) : L2.St → Hp → XK → Prop := fun σ H Q => ta σ H fun vs H1 => ∃ y, vs = [y] ∧ ∀ d, H1 d = none → Q (.ref C) (some d) (upd H1 d (.xd [(("value" : Str), y)]))
section
variable {X : Cx} {W : WX} {x : Str} {S C fI : Addr} {k : Nat} {fd : FuncData} {e : Expr} {ta : TA} {p pos pos2 : Pos}
/-- C(e), by its own __init__, where nothing is handled -/
theorem pmk_val (T : ErrC X.K X.mg x S C fI) (F1 : FnOk X.prog X.w X.K X.mg X.base L2.CX0 k fI fd ["self", "value"] (spIni X.K C)) (hr : Room (k + 1) X.A) (hb : Binds X.K fd ["self", "value"] []) (hg : Gl X x) (ha : PA X [e] ta)
    (hdb : (x == ("__debug__" : Str)) = false := by decide) (he : starEach (e :: []) X.env = (false, eval e X.env) :: starEach [] X.env := by rfl) (hpl : (backTo pos (starEach [] X.env)).any (·.1) = false := by rfl) :
    L2N.PMk X (.Call (.Name x p) [e] [] pos) (tMkV C ta) := by
  intro pins s σ H Q I z
  obtain ⟨_, _, _, _, bm, _, _, _, _, _, _, _, _, _, _, look, refs⟩ := T.ox.cls
  refine wpAny_Call_Name_kw (ld_glob I hg T.gC (PySem.W.callWith_K (h₀ := X.base) I.ok.mod.kin T.ox.kC ?_ he hpl) hdb)
  refine thn (ha.run pos pins s σ H _ I z) fun us ⟨hp, gn, dr, tk, os⟩ ⟨vs, H1, J, rel, y, hy, q⟩ => ⟨J.kIn, ?_⟩
  subst hy
  cases rel with
  | @cons _ u _ us' ry rest =>
  cases rest
  show wpAny (model X.prog X.w) X.A (PySem.call (.ref C) [u]) _ _ _
  -- the exception, bare, and the tuple of what it was made of
  have grow : ∀ b o, hp.get? b = some o → ((hp.push (PySem.W.kdv_tup [u])).push (PySem.HandSPX.excO C hp.objs.size)).get? b = some o := fun b o g => Heap.get?_push_of_some _ (Heap.get?_push_of_some _ g)
  have here : ((hp.push (PySem.W.kdv_tup [u])).push (PySem.HandSPX.excO C hp.objs.size)).get? (hp.objs.size + 1) = some (PySem.HandSPX.excO C hp.objs.size) := by heap_get
  obtain ⟨a, ea⟩ : ∃ a, a = hp.objs.size + 1 := ⟨_, rfl⟩
  have above : hp.objs.size ≤ a := by omega
  have free : H1 a = none := J.hok.fresh above
  rw [← ea] at here
  have J2 : Inv X pins σ (upd H1 a (exo a C none)) ⟨(hp.push (PySem.W.kdv_tup [u])).push (PySem.HandSPX.excO C hp.objs.size), gn, dr, tk, os⟩ :=
    J.laid (t' := tk) (o := exo a C none) grow above (exo_ok here)
  have vals : Vals [V.ref a, y] [Value.ref a, u] := .cons rfl (.cons ry .nil)
  have pr : spIni X.K C [V.ref a, y] (upd H1 a (exo a C none)) (fun v H2 => v = .non ∧ ∃ d, H1 d = none ∧ d ≠ a ∧ H2 = upd (upd (upd H1 a (exo a C none)) d (exd d [(("value" : Str), y)])) a (exo a C (some d))) (fun _ _ _ => False) :=
    ⟨a, y, rfl, T.ox, T.no, upd_same, fun d hd ne => ⟨rfl, d, by rw [upd_ne ne] at hd; exact hd, ne, rfl⟩⟩
  have bd := hb _ [Value.ref a, u] J2.kIn rfl
  refine wpAny_call (PySem.HandSPX.call_own F.excBase_ValueError (fun Y => PySem.HandSPX.refsVE_contains Y bm refs) (J.kIn _ _ look) (PySem.W.looks_findIn J.kIn T.iC) (fun self => PySem.W.bind_fn J.kIn self T.tI) (by show 1 ≤ 16777216; decide) ?_)
  rw [← ea]
  refine codeAny_mono (F1.run _ X.stack _ _ ⟨[Value.ref a, u], []⟩ [Value.ref a, u] _ _ (fun _ _ _ => False) (hr.make C [u] []) (J2.env0.make C [u] []) bd vals pr) fun r ⟨h2, g2, d2, t2, o2⟩ res => ?_
  match r, res with
  | .error _, res => exact res.elim
  | .ok .next, res => exact res.elim
  | .ok .brk, res => exact res.elim
  | .ok .cont, res => exact res.elim
  | .ok (.ret v), ⟨x2, H2, os2, bare2, un2, hok2, rv, ⟨ex, d, hd, ne, eH⟩⟩ =>
    subst ex
    have ea2 : H2 a = some (exo a C (some d)) := by rw [eH]; exact upd_same
    have ed2 : H2 d = some (exd d [(("value" : Str), y)]) := by rw [eH, upd_ne ne]; exact upd_same
    obtain ⟨t0, G, J3, up, gone, obj, nx⟩ := mk_end0 (d2 := d2) (t2 := t2) J above grow un2 hok2 os2 bare2 ea2 ed2 hd
    refine ⟨rv, a, _, _, ⟨G, g2, d2, t2, o2⟩, _, .ref C, some d, rfl, J3, up, gone, obj, ⟨rfl, rfl, fun ws hw => by cases hw; rfl⟩, rfl, rfl, nx, rfl, bare2, raises_own T.ox.exC T.ox.tyC, ?_⟩
    have eq : upd (del H2 a) d (.xd [(("value" : Str), y)]) = upd H1 d (.xd [(("value" : Str), y)]) := by
      rw [eH]
      funext b
      by_cases hb : b = d
      · rw [hb, upd_same, upd_same]
      · rw [upd_ne hb, upd_ne hb]
        by_cases hc : b = a
        · rw [hc, del_same, free]
        · rw [del_ne hc, upd_ne hc, upd_ne hb, upd_ne hc]
    rw [eq]
    exact q d hd
/-- raise C(e) -/
def tRaiseV (C : Addr) (W : WX) (ta : TA) : TS := fun _ σ H => tMkV C ta σ H fun cls d H' => W cls d σ H'
theorem takesN0 {X : Cx} : L2N.Takes X (fun _ _ _ _ => False) := fun _ _ x => by
  obtain ⟨_, _, _, _, _, _, _, _, _, _, _, _, _, _, _, _, z⟩ := x
  exact z.elim
theorem ps_raiseV (hc : X.calm = true) (tk : L2N.Takes X W) (T : ErrC X.K X.mg x S C fI) (F1 : FnOk X.prog X.w X.K X.mg X.base L2.CX0 k fI fd ["self", "value"] (spIni X.K C)) (hr : Room (k + 1) X.A) (hb : Binds X.K fd ["self", "value"] []) (hg : Gl X x) (ha : PA X [e] ta)
    (hdb : (x == ("__debug__" : Str)) = false := by decide) (he : starEach (e :: []) X.env = (false, eval e X.env) :: starEach [] X.env := by rfl) (hpl : (backTo pos (starEach [] X.env)).any (·.1) = false := by rfl) :
    PS X (.Raise (some (.Call (.Name x p) [e] [] pos)) none pos2) (tRaiseV C W ta) := L2N.ps_raise hc tk (pmk_val T F1 hr hb hg ha hdb he hpl)
/-- e.f, e the exception that the suite holds, of any class -/
def tXfA (K : PySem.W.Frag) (a : Addr) (cls : Value) (d : Option Addr) (f : Str) (te : TE) : TE := fun σ H Q => te σ H fun x H1 => x = .ref a ∧ ∃ (C dd : Addr) (fs : List (Str × V)) (v : V), cls = .ref C ∧ d = some dd ∧ XfC K C ∧ PySem.W.findIn K (.ref C) f = some none ∧ H1 dd = some (.xd fs) ∧ fs.lookup f = some v ∧ Q v H1
theorem pe_xfA {q : Addr × Obj} (mem : q ∈ X.pn) {cls : Value} {d : Option Addr} {e : Expr} {te : TE} {pos : Pos} {n : Str}
    (hz : L2N.Zn cls d q.2) (hf : ∃ vs, q.2.data = .fields vs) (he : PE X e te) (hb : attributeBase e n X.env (eval e X.env) = eval e X.env := by rfl) :
    PE X (.Attribute e n pos) (tXfA X.K q.1 cls d n te) := by
  refine ⟨fun pins s σ H Q I z => attr_of hb (thn (he.run pins s σ H _ I z) fun u s1 ⟨x, H1, J, rx, ex, C, dd, fs, v, ec, ed, T, hno, ea, l, k⟩ => ?_)⟩
  subst ex ec ed
  obtain rfl : u = Value.ref q.1 := rx
  have stands := (J.pin q (List.mem_append_left _ mem)).1
  obtain ⟨mA, hns, hr⟩ : ObjOk X.prog X.w H1 s1.heap dd (.xd fs) := J.hok dd _ ea
  obtain ⟨od, ho, hl⟩ := lookIn_ns hns
  obtain ⟨u, hu, ru⟩ := RelO.some_of (v := v) (o := mA n) (l ▸ hr n)
  have at_ : PySem.W.InstAt s1.heap q.1 q.2 C (some od) := ⟨stands, hz.1, by obtain ⟨vs, hd⟩ := hf; unfold PySem.W.notCls; rw [hd], by rw [hz.2.1]; exact ho⟩
  exact HandSPX.exc_get J.kIn at_ T.ga T.gg T.exC (PySem.W.findObj_own T.hdC hno rfl (by rw [hl, hu])) (handed_of ru) ⟨v, H1, J.tok _, ru, k⟩
theorem pe_xfS {a : Addr} {oe : Obj} {cls : Value} {d : Option Addr} {pn : List (Addr × Obj)} {e : Expr} {te : TE} {pos : Pos} {n : Str}
    (hz : L2N.Zn cls d oe) (hf : ∃ vs, oe.data = .fields vs) (he : PE (X.suite a ((a, oe) :: pn)) e te) (hb : attributeBase e n X.env (eval e X.env) = eval e X.env := by rfl) :
    PE (X.suite a ((a, oe) :: pn)) (.Attribute e n pos) (tXfA X.K a cls d n te) := pe_xfA (q := (a, oe)) List.mem_cons_self hz hf he hb
end
section
variable {σ : L2.St} {H : Hp} {Q : VK} {W : WX} {sp : Sp} {t tk : TA} {fV : List V → List V → List V} {C : Addr} {D : Ends} {K : PySem.W.Frag} {a : Addr} {cls : Value} {d : Option Addr} {f : Str} {te : TE}
theorem r_callX (h : t σ H fun vs H1 => sp vs H1 Q fun cls d H' => W cls d σ H') : tCallX sp W t σ H Q := h
theorem r_callXK (h : t σ H fun vs H1 => tk σ H1 fun zs H2 => sp (fV vs zs) H2 Q fun cls d H' => W cls d σ H') : tCallXK sp fV W t tk σ H Q := h
theorem r_raiseV (h : t σ H fun vs H1 => ∃ y, vs = [y] ∧ ∀ d, H1 d = none → W (.ref C) (some d) σ (upd H1 d (.xd [(("value" : Str), y)]))) : tRaiseV C W t D σ H := h
theorem r_xfA (h : te σ H fun x H1 => x = .ref a ∧ ∃ (C dd : Addr) (fs : List (Str × V)) (v : V), cls = .ref C ∧ d = some dd ∧ XfC K C ∧ PySem.W.findIn K (.ref C) f = some none ∧ H1 dd = some (.xd fs) ∧ fs.lookup f = some v ∧ Q v H1) : tXfA K a cls d f te σ H Q := h
end
end Xk
local macro_rules | `(tactic| fail "ww1") => `(tactic| with_reducible first | refine Xk.r_callX ?_ | refine Xk.r_callXK ?_ | refine Xk.r_raiseV ?_ | refine Xk.r_xfA ?_)

set_option Elab.async false
set_option linter.all false
set_option maxRecDepth 100000
set_option maxHeartbeats 20000000
namespace Xk
open PySem PySem.Spec PyProof.Rows L2
/-! ### a list's end, whatever is handled -/
section
variable {prog : Program} {w : World} {A : Around} {E : Value → Shared → Prop} {s : Shared}
theorem list_end_hot {it l x1 : Addr} {i : Nat} {vs : Array Value} {Q : Option Value → Shared → Prop} (hot : HotX.HotAt A x1 s.heap) (hit : s.heap.IsListIter it l i) (hl : s.heap.IsList l vs) (none_ : vs[i]? = none) (hne : it ≠ x1)
    (hQ : ∀ h', (∀ b o, b ≠ it → s.heap.get? b = some o → h'.get? b = some o) → Q none { s with heap := h' }) : wpAny (model prog w) A (pyNext (.ref it)) Q E s := by
  obtain ⟨hand, o1, w1, g1, f1, c1⟩ := hot
  obtain ⟨oi, gi, ci, fi⟩ := id hit
  obtain ⟨ol, gl, _, cap, fl⟩ := hl
  unfold pyNext
  refine wpAny_bind (wpAny_attempt (wpAny_callSpecial?_slot (name := Str.ofString "__next__") hit.typeIs slot_listiter_next (wpAny_call_entry slot_listiter_next hit.typeIs entry_listiter_next ?_ (args_listiter_next _))))
  show wpAny _ _ (field (.ref it) 0 >>= _) _ _ s
  refine wpAny_bind (wpAny_field gi fi (x := .ref l) rfl ?_)
  show wpAny _ _ (if (Value.ref l == Value.none) = true then _ else _) _ _ s
  rw [show (Value.ref l == Value.none) = false from rfl, if_neg Bool.false_ne_true]
  show wpAny _ _ (field (.ref it) 1 >>= _) _ _ s
  refine wpAny_bind (wpAny_field gi fi (x := .int i 0) rfl ?_)
  show wpAny _ _ (seqItems? (.ref l) >>= _) _ _ s
  refine wpAny_bind (wpAny_seqItems gl fl ?_)
  simp only [Int.toNat_natCast, none_]
  refine wpAny_bind (wpAny_rule (wpAny_bind (wpAny_setField gi fi (by simp) ?_)))
  show wpAny _ _ (newExc (.type "StopIteration") [] >>= _) _ _ _
  refine wpAny_bind ?_
  simp only [newExc, newTuple]
  refine wpAny_bind (wpAny_newObj_type ?_ (by size_fits))
  refine wpAny_bind (m := firstArgMember _ _) (wpAny_of_eq (a := Value.none) (by first | rfl | (simp only [firstArgMember]; rfl)) ?_)
  refine wpAny_newObj_type ?_ (by size_fits)
  have old : ∀ {b o}, b ≠ it → s.heap.get? b = some o → (s.heap.update it (Obj.mapFields fun x => x.setIfInBounds 0 Value.none)).get? b = some o := fun hb g => (Heap.get?_update_other _ _ (Ne.symm hb)).trans g
  have e1 := old (Ne.symm hne) g1
  refine HotX.raiseNew_hot ⟨hand, o1, w1, Heap.get?_push_of_some _ (Heap.get?_push_of_some _ e1), f1, c1⟩ (Nat.ne_of_lt (Heap.lt_size (Heap.get?_push_of_some _ e1))) (Heap.get?_push_size _ rfl) rfl (by first | (simp; done) | (simp; omega) | (simp only [Array.size_append]; simp; omega)) ?_
  refine wpAny_bind (wpAny_isInstance (T := "StopIteration") (b := true) ⟨_, Heap.get?_update_self _ (Heap.get?_push_size _ rfl) rfl, rfl⟩ isSubtype_stop ?_)
  refine wpAny_pure (hQ _ fun b o hb g => ?_)
  have e2 := old hb g
  rw [Heap.get?_update_other _ _ (Nat.ne_of_gt (Heap.lt_size (Heap.get?_push_of_some _ e2)))]
  exact Heap.get?_push_of_some _ (Heap.get?_push_of_some _ e2)
/-- the same of a tuple's walk -/
theorem tuple_end_hot {it l x1 : Addr} {i : Nat} {vs : Array Value} {Q : Option Value → Shared → Prop} (hot : HotX.HotAt A x1 s.heap) (hit : s.heap.IsTupleIter it l i) (hl : s.heap.IsTuple l vs) (none_ : vs[i]? = none) (hne : it ≠ x1)
    (hQ : ∀ h', (∀ b o, b ≠ it → s.heap.get? b = some o → h'.get? b = some o) → Q none { s with heap := h' }) : wpAny (model prog w) A (pyNext (.ref it)) Q E s := by
  obtain ⟨hand, o1, w1, g1, f1, c1⟩ := hot
  obtain ⟨oi, gi, ci, fi⟩ := id hit
  obtain ⟨ol, gl, _, cap, fl⟩ := hl
  unfold pyNext
  refine wpAny_bind (wpAny_attempt (wpAny_callSpecial?_slot (name := Str.ofString "__next__") hit.typeIs F.slot_tuple_iterator_next (wpAny_call_entry F.slot_tuple_iterator_next hit.typeIs F.entry_tuple_iterator_next ?_ (F.args_tuple_iterator_next_1 _))))
  show wpAny _ _ (field (.ref it) 0 >>= _) _ _ s
  refine wpAny_bind (wpAny_field gi fi (x := .ref l) rfl ?_)
  show wpAny _ _ (if (Value.ref l == Value.none) = true then _ else _) _ _ s
  rw [show (Value.ref l == Value.none) = false from rfl, if_neg Bool.false_ne_true]
  show wpAny _ _ (field (.ref it) 1 >>= _) _ _ s
  refine wpAny_bind (wpAny_field gi fi (x := .int i 0) rfl ?_)
  show wpAny _ _ (seqItems? (.ref l) >>= _) _ _ s
  refine wpAny_bind (wpAny_seqItems gl fl ?_)
  simp only [Int.toNat_natCast, none_]
  refine wpAny_bind (wpAny_rule (wpAny_bind (wpAny_setField gi fi (by simp) ?_)))
  show wpAny _ _ (newExc (.type "StopIteration") [] >>= _) _ _ _
  refine wpAny_bind ?_
  simp only [newExc, newTuple]
  refine wpAny_bind (wpAny_newObj_type ?_ (by size_fits))
  refine wpAny_bind (m := firstArgMember _ _) (wpAny_of_eq (a := Value.none) (by first | rfl | (simp only [firstArgMember]; rfl)) ?_)
  refine wpAny_newObj_type ?_ (by size_fits)
  have old : ∀ {b o}, b ≠ it → s.heap.get? b = some o → (s.heap.update it (Obj.mapFields fun x => x.setIfInBounds 0 Value.none)).get? b = some o := fun hb g => (Heap.get?_update_other _ _ (Ne.symm hb)).trans g
  have e1 := old (Ne.symm hne) g1
  refine HotX.raiseNew_hot ⟨hand, o1, w1, Heap.get?_push_of_some _ (Heap.get?_push_of_some _ e1), f1, c1⟩ (Nat.ne_of_lt (Heap.lt_size (Heap.get?_push_of_some _ e1))) (Heap.get?_push_size _ rfl) rfl (by first | (simp; done) | (simp; omega) | (simp only [Array.size_append]; simp; omega)) ?_
  refine wpAny_bind (wpAny_isInstance (T := "StopIteration") (b := true) ⟨_, Heap.get?_update_self _ (Heap.get?_push_size _ rfl) rfl, rfl⟩ isSubtype_stop ?_)
  refine wpAny_pure (hQ _ fun b o hb g => ?_)
  have e2 := old hb g
  rw [Heap.get?_update_other _ _ (Nat.ne_of_gt (Heap.lt_size (Heap.get?_push_of_some _ e2)))]
  exact Heap.get?_push_of_some _ (Heap.get?_push_of_some _ e2)
/-- a tuple is taken apart while an exception is handled -/
theorem unpack_hot {t x1 : Addr} {vs : Array Value} {Q : Unit → Shared → Prop} {elts : List Expr} {k : Nat} {pos : Pos} {env : Env} (hot : HotX.HotAt A x1 s.heap) (ht : s.heap.IsTuple t vs)
    (hn : (assignEach elts env).length = vs.size) (hst : (assignEach elts env).findIdx? (·.1) = none)
    (hQ : ∀ h', (∀ b o, s.heap.get? b = some o → h'.get? b = some o) → wpAny (model prog w) A (assignInOrder ((assignEach elts env).map (·.2)) vs.toList) Q E { s with heap := h' }) :
    wpAny (model prog w) A (assign (.Tuple elts k pos) env (.ref t)) Q E s := by
  obtain ⟨o0, g0, _, _, d0⟩ := id ht
  have away : t ≠ s.heap.objs.size := Nat.ne_of_lt (Heap.lt_size g0)
  obtain ⟨hand, o1, w1, g1, f1, c1⟩ := hot
  have away1 : x1 ≠ s.heap.objs.size := Nat.ne_of_lt (Heap.lt_size g1)
  rw [arm_assign_Tuple]
  refine wpAny_bind (wpAny_standAt ?_)
  unfold unpack
  rw [hn, hst]
  refine wpAny_bind (wpAny_holding ?_)
  unfold unpackItems notIterableAtAll
  refine wpAny_bind (wpAny_bind (wpAny_specialOf ht.typeIs F.slot_tuple_iter.lookup (wpAny_pure ?_)))
  rw [if_neg (by simp)]
  refine wpAny_bind (wpAny_holding (wpAny_pyIter_tuple ht ?_))
  refine wpAny_bind (wpAny_holding (wpAny_draw_tuple away vs.size 0 _ _ ⟨_, Heap.get?_push_size _ rfl, rfl, rfl⟩ (ht.push _) (by omega) fun h1 st1 same1 => ?_))
  rw [List.drop_zero, List.take_of_length_le (by simp)]
  rw [if_neg (by simp)]
  have ht1 : h1.IsTuple t vs := (ht.push _).extBut same1.extBut away
  have gx : h1.get? x1 = some o1 := (same1.2 x1 away1).trans (Heap.get?_push_of_some _ g1)
  refine wpAny_bind (wpAny_holding (tuple_end_hot (s := { s with heap := h1 }) ⟨hand, o1, w1, gx, f1, c1⟩ st1 ht1 (by simp) (Ne.symm away1) fun h2 up => ?_))
  simp only [Option.isSome_none, Bool.false_eq_true, if_false]
  exact wpAny_pure (hQ h2 fun b o g => up b o (Nat.ne_of_lt (Heap.lt_size g)) ((same1.2 b (Nat.ne_of_lt (Heap.lt_size g))).trans (Heap.get?_push_of_some _ g)))
end
/-! ### a caught exception stands by -/
/-- q is the exception that is handled, or nothing is -/
def ByQ (A : Around) (q : Addr × Obj) : Prop := A.handled = none ∨ A.handled = some (.ref q.1)
/-- what is known of a caught exception -/
structure Caught (X : Cx) (q : Addr × Obj) (cls : Value) (d : Option Addr) : Prop where
  mem : q ∈ X.pn
  by_ : ByQ X.A q
  zn : L2N.Zn cls d q.2
  fld : ∃ vs, q.2.data = .fields vs
section
variable {X : Cx} {pins : List (Addr × Obj)} {σ : L2.St} {H : Hp} {s : Shared} {q : Addr × Obj} {cls : Value} {d : Option Addr}
/-- the end of a list's walk in a comprehension's block, the exception still there -/
theorem list_end_any {A : Around} {E : Value → Shared → Prop} {it l : Addr} {i : Nat} {vs : Array Value} {Q : Option Value → Shared → Prop} (hb : ByQ A q) (hz : L2N.Zn cls d q.2) (hf : ∃ vs, q.2.data = .fields vs) (there : s.heap.get? q.1 = some q.2)
    (hit : s.heap.IsListIter it l i) (hl : s.heap.IsList l vs) (none_ : vs[i]? = none) (hne : it ≠ q.1) (hQ : ∀ h', (∀ b o, b ≠ it → s.heap.get? b = some o → h'.get? b = some o) → Q none { s with heap := h' }) :
    wpAny (model X.prog X.w) A (pyNext (.ref it)) Q E s := by
  rcases hb with hd | hd
  · exact wpAny_pyNext_list_end hd hit hl none_ fun h' ext => hQ h' fun b o ne g => ext b o ne g
  · obtain ⟨ws, fw⟩ := hf
    exact list_end_hot ⟨hd, q.2, ws, there, fw, hz.2.2 ws fw⟩ hit hl none_ hne hQ
/-- a comprehension's block, the exception kept in sight -/
abbrev blkE (X : Cx) (s : Shared) (H : Hp) (scope : Scope) (cenv : Env) (fp : List Addr) (q : Addr × Obj) : Cx := { X.blk s H scope cenv fp with pn := [q] }
theorem toBlkE {X : Cx} {s0 : Shared} {H0 : Hp} {scope : Scope} {cenv : Env} {fp : List Addr} {q : Addr × Obj} {σ : L2.St} {H : Hp} {s : Shared} (I : Inv (X.blk s0 H0 scope cenv fp) [] σ H s)
    (h : s.heap.get? q.1 = some q.2 ∧ H q.1 = none ∧ q.1 ≠ cenv.locals ∧ q.1 ∉ frs X.stack ∧ ∀ v, q.2.data ≠ .cell v) : Inv (blkE X s0 H0 scope cenv fp q) [] σ H s :=
  ⟨⟨I.ok.mod, I.ok.kind, I.ok.glob, I.ok.blt, I.ok.above, I.ok.inj, I.ok.has, I.ok.cab, I.ok.hd, I.ok.frames, I.ok.stk, I.ok.exf, I.ok.bs, I.ok.bsz, I.ok.noex, I.ok.exfs, I.ok.funs, I.ok.frf⟩, I.os, I.bare, I.base, I.loc, I.cell, I.free, I.freeC,
    fun p hp => by rw [List.mem_singleton.mp (show p ∈ [q] from hp)]; exact h, I.hok, I.len⟩
theorem Caught.blk {X : Cx} {s0 : Shared} {H0 : Hp} {scope : Scope} {cenv : Env} {fp : List Addr} {q : Addr × Obj} {cls : Value} {d : Option Addr} (C : Caught X q cls d) : Caught (blkE X s0 H0 scope cenv fp q) q cls d :=
  ⟨List.mem_singleton.mpr rfl, C.by_, C.zn, C.fld⟩
/-- a tuple taken apart, where an exception may be handled -/
theorem pg_tupE {es : List Expr} {k : Nat} {g : TGs} {pos : Pos} (n : Nat) (C : Caught X q cls d) (h : PGs X es g) (hn : (assignEach es X.env).length = n := by rfl) (hst : (assignEach es X.env).findIdx? (·.1) = none := by rfl) {K : PySem.W.Frag} (hK : X.K = K := by rfl) :
    PG X (.Tuple es k pos) (gTup K n g) := by
  subst hK
  refine ⟨fun pins s σ H v u Q I r ⟨a, xs, e1, hq, hl, z⟩ => ?_⟩
  subst e1
  cases r
  obtain ⟨its, rv, ht, _⟩ := I.tuple hq
  have size : (assignEach es X.env).length = its.toArray.size := by simp [hn, ← hl, rv.length]
  have go : ∀ h', (∀ b o, s.heap.get? b = some o → h'.get? b = some o) → wpAny (model X.prog X.w) X.A (assignInOrder ((assignEach es X.env).map (·.2)) its.toArray.toList) (fun _ s' => ∃ σ' H', Inv X pins σ' H' s' ∧ Q σ' H') X.xe { s with heap := h' } :=
    fun h' up => h.run pins _ σ H xs _ Q (I.kept (t' := s.toks) up) (by simpa using rv) z
  rcases C.by_ with hd | hd
  · exact assign_Tuple_tuple hd ht size hst fun h' ext => go h' fun b o g => ext b o (Nat.ne_of_lt (Heap.lt_size g)) g
  · obtain ⟨ws, fw⟩ := C.fld
    exact unpack_hot ⟨hd, q.2, ws, (I.pin q (List.mem_append_left _ C.mem)).1, fw, C.zn.2.2 ws fw⟩ ht size hst go
/-- name = [elt for target in a list if ..], on one line, where an exception may be handled -/
theorem ps_setLcE {i : Nat} {y : Str} {py : Pos} {elt tg iter : Expr} {ifs : List Expr} {scope : Scope} {own : List (Str × Nat)} {pos spos : Pos} {tl : TE} {g : TG} {tt : TT} {te : TE} (cg : Caught X q cls d) (hN : X.N.Nodup) (hy : X.N[i]? = some y) (hyl : X.env.scope.names.lookup y = some .local)
    (hsw : swapsWith (.ListComp elt [⟨tg, iter, ifs, 0⟩] scope pos) (some (.Name y py)) spos.line X.env = pure true) (hi : PE X iter tl) (ok : BlkOk X.N X.env.scope scope own)
    (hg : ∀ (s : Shared) (H : Hp) (C : Addr) (cl : List (Str × Addr)) (fp : List Addr), PG (blkE X s H scope (compEnvC scope cl C X.env) fp q) tg g) (ht : ∀ (s : Shared) (H : Hp) (C : Addr) (cl : List (Str × Addr)) (fp : List Addr), PTs (blkE X s H scope (compEnvC scope cl C X.env) fp q) ifs tt)
    (he : ∀ (s : Shared) (H : Hp) (C : Addr) (cl : List (Str × Addr)) (fp : List Addr), PE (blkE X s H scope (compEnvC scope cl C X.env) fp q) elt te) (hs : ∀ x, foldedSetIterable iter X.env x = pure x := by intro _; rfl) :
    PS X (.Assign [.Name y py] (.ListComp elt [⟨tg, iter, ifs, 0⟩] scope pos) spos) (tAsg (tLc (iList X.K tl) g tt te (own.map (·.2))) (gName i)) := by
  refine ⟨fun pins s σ H D I z => ?_⟩
  have vars : ∀ n ∈ scope.names, n.2 = .free → ∃ c, X.env.cells.lookup n.1 = some c := fun n hn e => (ok.free n hn e).elim (fun k => I.ok.has _ (.inl k)) fun k => I.ok.has _ (.inr k)
  rw [exec_Assign_Name_used _ _ _ _ hsw]
  refine wpAny_bind (wpAny_standAt (wpAny_bind ?_))
  show wpAny _ X.A (do let _ ← comprehension (.ListComp elt [⟨tg, iter, ifs, 0⟩] scope pos) scope X.env (firstIterPos [⟨tg, iter, ifs, 0⟩] pos) (newList []) false (eval iter X.env) (some (assign (.Name y py) X.env))) _ _ s
  refine wpAny_bind (thn ?_ fun _ s' (fin : SP X pins D .next s') => wpAny_pure (wpAny_pure fin))
  refine wpAny_comprehension_free rfl hs (closure_ok vars) ok.kind (fun n hn e => by rw [ok.uniq n hn, e]) (thn (hi.run pins s σ H _ I z) fun v0 s1 ⟨v, H1, I1, rv, k⟩ => ?_)
  obtain ⟨l, rfl, ⟨xs, hxs⟩, k⟩ := k
  obtain rfl : v0 = Value.ref l := rv
  obtain ⟨its, rel, lst, hz⟩ := I1.list hxs
  refine wpAny_pyIter_list lst.isList ?_
  -- the iterator
  obtain ⟨it, eit⟩ : ∃ it, it = s1.heap.objs.size := ⟨_, rfl⟩
  generalize e2 : ({ s1 with heap := s1.heap.push { cls := .type "list_iterator", data := .fields #[.ref l, .int 0 0] } } : Shared) = s2
  have h2 : s2.heap = s1.heap.push { cls := .type "list_iterator", data := .fields #[.ref l, .int 0 0] } := by rw [← e2]
  have I2 : Inv X pins σ H1 s2 := by rw [← e2]; exact I1.kept (t' := s1.toks) fun b o g => Heap.get?_push_of_some _ g
  have at2 : s2.heap.IsListIter it l 0 := by rw [h2, eit]; exact ⟨_, Heap.get?_push_size _ rfl, rfl, rfl⟩
  have fp2 : FpOk X pins H1 it := I1.fpOk (by rw [eit]; exact Nat.le_refl _) (I1.hok.fresh (by rw [eit]; exact Nat.le_refl _))
  rw [← eit]
  -- the new list
  refine wpAny_newObj_type (newEnv_comp ?_) (by show 0 ≤ sizeLine; decide)
  obtain ⟨L, eL⟩ : ∃ L, L = s2.heap.objs.size := ⟨_, rfl⟩
  rw [← eL]
  have hL : H1 L = none := I2.hok.fresh (Nat.le_of_eq eL.symm)
  obtain ⟨W, ⟨m0, w0⟩, turn⟩ := k L hL
  generalize e3 : ({ s2 with heap := s2.heap.push { cls := .type "list", data := .seq ([] : List Value).toArray } } : Shared) = s3
  have h3 : s3.heap = s2.heap.push { cls := .type "list", data := .seq ([] : List Value).toArray } := by rw [← e3]
  have I3 : Inv X pins σ (upd H1 L (.lst [])) s3 := by
    rw [← e3]
    exact I2.laid (t' := s2.toks) (o := .lst []) (fun b o g => Heap.get?_push_of_some _ g) (Nat.le_of_eq eL.symm) ⟨Nat.zero_le _, [], 0, .nil, by rw [eL]; exact Heap.get?_push_size _ rfl⟩
  have ltit : it < s2.heap.objs.size := by obtain ⟨o, g, _⟩ := at2; exact Heap.lt_size g
  have neL : it ≠ L := by rw [eL]; exact Nat.ne_of_lt ltit
  have at3 : s3.heap.IsListIter it l 0 := at2.at fun o g => by rw [h3]; exact Heap.get?_push_of_some _ g
  have lt3 : it < s3.heap.objs.size := by rw [h3, Heap.size_push]; exact Nat.lt_succ_of_lt ltit
  generalize eH : upd H1 L (.lst []) = H3 at I3 w0
  have fp3 : FpOk X pins H3 it := ⟨by rw [← eH, upd_ne neL]; exact fp2.1, fp2.2⟩
  have fps : ∀ b ∈ [it], FpOk X pins H3 b ∧ b < s3.heap.objs.size := fun b hb => by rw [List.mem_singleton.mp hb]; exact ⟨fp3, lt3⟩
  -- the block
  have I4 := block_start I3 ok hN fps
  have rg := hg s3 H3 s3.heap.objs.size (cellsFrom (s3.heap.objs.size + 1) scope.names (cloFrom X.env.cells scope.names [])) [it]
  have rt := ht s3 H3 s3.heap.objs.size (cellsFrom (s3.heap.objs.size + 1) scope.names (cloFrom X.env.cells scope.names [])) [it]
  have re := he s3 H3 s3.heap.objs.size (cellsFrom (s3.heap.objs.size + 1) scope.names (cloFrom X.env.cells scope.names [])) [it]
  show codeAny _ _ (.compStart (.ListComp elt [⟨tg, iter, ifs, 0⟩] scope pos) 0 (.ref it) (.ref L) (compEnvC scope (cellsFrom (s3.heap.objs.size + 1) scope.names (cloFrom X.env.cells scope.names [])) s3.heap.objs.size X.env)) _ { s3 with heap := pushCells (s3.heap.push { cls := .type "dict", data := .dict #[] }) scope.names }
  generalize ece : compEnvC scope (cellsFrom (s3.heap.objs.size + 1) scope.names (cloFrom X.env.cells scope.names [])) s3.heap.objs.size X.env = ce at I4 rg rt re ⊢
  have loc : ce.locals = s3.heap.objs.size := by rw [← ece]; rfl
  generalize e4 : ({ s3 with heap := pushCells (s3.heap.push { cls := .type "dict", data := .dict #[] }) scope.names } : Shared) = s4 at I4 ⊢
  have at4 : s4.heap.IsListIter it l 0 := at3.at fun o g => by rw [← e4]; exact pushCells_keeps _ _ _ _ (Heap.get?_push_of_some _ g)
  -- the exception stands by all through
  have pin3 := I3.pin q (List.mem_append_left _ cg.mem)
  have hqit : it ≠ q.1 := fun e => fp3.2.2.2.2.2 q (List.mem_append_left _ cg.mem) e.symm
  have hqS : q.1 ∉ frs X.stack := fun hm => by
    rcases List.mem_cons.mp (I3.stkSub q.1 hm) with e | e
    · exact pin3.2.2.1 e
    · exact pin3.2.2.2.1 e
  have I4 : Inv (blkE X s3 H3 scope ce [it] q) [] (wipe σ (own.map (·.2))) H3 s4 := toBlkE I4 ⟨I4.base.keep q.1 q.2 pin3.1 pin3.2.1 hqS (fun hm => hqit (List.mem_singleton.mp hm).symm), pin3.2.1, by rw [loc]; exact Nat.ne_of_lt (Heap.lt_size pin3.1), hqS, pin3.2.2.2.2⟩
  have stands : ∀ {σ' : L2.St} {H' : Hp} {s' : Shared}, Inv (blkE X s3 H3 scope ce [it] q) [] σ' H' s' → s'.heap.get? q.1 = some q.2 := fun J => (J.pin q (List.mem_append_left _ (List.mem_singleton.mpr rfl))).1
  have fpB : ∀ {σ' : L2.St} {H' : Hp} {s' : Shared}, Inv (blkE X s3 H3 scope ce [it] q) [] σ' H' s' → H' it = none → ∀ b ∈ [it], FpOk (blkE X s3 H3 scope ce [it] q) [] H' b := fun {σ' H' s'} J n b hb => by
    obtain rfl := List.mem_singleton.mp hb
    exact ⟨n, (J.ok.exf _ hb).1, J.ok.exfs _ hb, .inl hb, fun x c e => (J.ok.exf _ hb).2 x c e, fun p hp => by rw [List.mem_singleton.mp (show p ∈ [q] from hp)]; exact Ne.symm hqit⟩
  have hc1 : ∀ {h : Heap} {j : Nat}, h.IsListIter it l j → ∀ b ∈ [it], ∃ o, h.get? b = some o ∧ ∀ v, o.data ≠ .cell v := fun st b hb => by
    obtain rfl := List.mem_singleton.mp hb
    obtain ⟨o, g, _, dt⟩ := st
    exact ⟨o, g, fun v e => by rw [dt] at e; cases e⟩
  suffices loop : codeAny (model X.prog X.w) X.A (.compLoop (.ListComp elt [⟨tg, iter, ifs, 0⟩] scope pos) 0 (.ref it) (.ref L) ce) (compPost (model X.prog X.w) X.A X.xe (some (assign (.Name y py) X.env)) (fun _ s' => SP X pins D .next s') (.ref L) s3.heap.objs.size) s4 from
    codeAny_compStart_list loop (wpAny_pyIter_listiter at4 loop)
  refine compLoop_any (fun n s' => ∃ j H', Inv (blkE X s3 H3 scope ce [it] q) [] (wipe σ (own.map (·.2))) H' s' ∧ s'.heap.IsListIter it l j ∧ H' it = none ∧ W j n H') ?_ m0 ⟨0, H3, I4, at4, fp3.1, w0⟩
  rintro n s5 ⟨j, H5, I5, at5, n5, w5⟩
  have wide : ∀ {h' : Heap}, (∀ b o, b ≠ it → s5.heap.get? b = some o → h'.get? b = some o) → Inv (blkE X s3 H3 scope ce [it] q) [] (wipe σ (own.map (·.2))) H5 { s5 with heap := h' } := fun {h'} up => by
    obtain ⟨g0, g1, _, g3, g4, g5⟩ := fpB I5 n5 it (List.mem_singleton.mpr rfl)
    exact I5.turned (t' := s5.toks) up g0 g1 g3 g4 g5
  rcases turn j n H5 w5 with ⟨⟨ys, hys, hend⟩, done⟩ | ⟨⟨ys, x, hys, hx⟩, Nx, hNx, step⟩
  · -- the end: the list is stored
    obtain ⟨vs, rvs, lst5, _⟩ := I5.list hys
    refine thnF (list_end_any (X := X) cg.by_ cg.zn cg.fld (stands I5) at5 lst5.isList (by have := rvs.length; simp; omega) hqit (Q := fun r s6 => r = none ∧ Inv (blkE X s3 H3 scope ce [it] q) [] (wipe σ (own.map (·.2))) H5 s6) (fun h' up => ⟨rfl, wide up⟩)) fun r s6 ⟨hr, I6⟩ => ?_
    subst hr
    have I7 : Inv X pins σ H5 s6 := I3.call' (ch := [it]) I6.os I6.base I6.hok I6.bare fun b hb => by
      rw [List.mem_singleton.mp hb]; exact ⟨fp3.2.2.2.1, fp3.2.1, fp3.2.2.2.2.1, fp3.2.2.2.2.2⟩
    have free : H5 s3.heap.objs.size = none := by have e : H5 ce.locals = none := I6.free; rwa [loc] at e
    obtain ⟨mm, ns, _⟩ := I6.loc
    have ns : s6.heap.Ns ce.locals mm := ns
    rw [loc] at ns
    obtain ⟨f0, f1, f2, f3, f4, f5⟩ : FpOk X pins H5 s3.heap.objs.size := I3.fpOk (Nat.le_refl _) free
    show wpAny _ _ (assign (.Name y py) X.env (.ref L)) _ _ _
    refine wpAny_assign_Name (store_ok2 (v := V.ref L) I7 hN hy (.inl hyl) rfl (fun s8 I8 ⟨a, same, ha⟩ => ?_) (.inr hyl))
    have away : s3.heap.objs.size ≠ a := ha.elim (fun e => e ▸ f1) fun e => fun e' => f4 y a e e'.symm
    exact ⟨mm, ns.sameBut same away, fun h9 same9 => ⟨_, H5, I8.turned (t' := s8.toks) (fun b o hb g => (same9.2 b hb).trans g) f0 f1 f3 f4 f5, done⟩⟩
  · -- a turn
    obtain ⟨vs, rvs, lst5, _⟩ := I5.list hys
    obtain ⟨u, hu, ru⟩ := rvs.get hx
    refine thnF (wpAny_pyNext_list_item (Q := fun r s6 => r = some u ∧ Inv (blkE X s3 H3 scope ce [it] q) [] (wipe σ (own.map (·.2))) H5 s6 ∧ s6.heap.IsListIter it l (j + 1)) at5 lst5.isList (x := u) (by simpa using hu) fun h' st same => ⟨rfl, wide fun b o hb g => (same.2 b hb).trans g, st⟩) fun r s6 ⟨hr, I6, at6⟩ => ?_
    subst hr
    obtain ⟨oi, gi, ci, di⟩ := id at6
    refine go_of gi ci di (by decide) ?_
    have I7 := I6.pinned (fpB I6 n5) (hc1 at6)
    refine thnF (rg.run _ s6 _ H5 x u _ I7 ru (step x H5 ⟨rfl, fun zs hzs => by rw [I5.list_inj hzs hys]; exact hx⟩)) fun _ s7 ⟨σ7, H7, I8, wp, k7⟩ => ?_
    refine thnF (rt.run _ s7 σ7 H7 _ I8 k7) fun b s8 ⟨H8, I9, k8⟩ => ?_
    have again : ∀ {s' : Shared} {H' : Hp}, Inv (blkE X s3 H3 scope ce [it] q) ([] ++ pinsAt [it] s6.heap) σ7 H' s' → Nx H' → ∃ m, m < n ∧ ∃ j' H', Inv (blkE X s3 H3 scope ce [it] q) [] (wipe σ (own.map (·.2))) H' s' ∧ s'.heap.IsListIter it l j' ∧ H' it = none ∧ W j' m H' := fun {s' H'} J nx => by
      obtain ⟨m', hm, w'⟩ := hNx H' nx
      have kept := J.pin (it, oi) (List.mem_append_right _ (List.mem_append_right _ (mem_pinsAt (List.mem_singleton.mpr rfl) gi)))
      refine ⟨m', hm, j + 1, H', (J.unpinned (pins := [])).weak (by rw [← wp, wipe_length]) (fun k v e => ?_), ⟨oi, kept.1, ci, di⟩, kept.2.1, w'⟩
      rw [← wp] at e
      exact (wipe_some e).1
    cases b with
    | false =>
      rw [if_neg Bool.false_ne_true] at k8
      exact again I9 k8
    | true =>
      rw [if_pos rfl] at k8
      refine thnF (re.run _ s8 σ7 H8 _ I9 k8) fun v9 s9 ⟨yv, H9, I10, r9, acc, hD9, hz9, nx⟩ => ?_
      exact app_ok (X := blkE X s3 H3 scope ce [it] q) I10 hD9 hz9 r9 fun s10 I11 => again I11 nx
/-- isinstance(e, c) -/
def rIsX (K : PySem.W.Frag) (a : Addr) (cls : Value) (d : Option Addr) : List V → Hp → VK → Prop := fun xs H Q => ∃ (c : V) (cv : Value) (b : Bool) (D dd : Addr) (fs : List (Str × V)), xs = [.ref a, c] ∧ (∀ u, RelV c u → u = cv) ∧ cls = .ref D ∧ d = some dd ∧ H dd = some (.xd fs) ∧ ExcC K D ∧ PySem.W.kitOne K (.ref D) cv = some b ∧ Q (.bl b) H
theorem call_isX (C : Caught X q cls d) : CallR X (.builtin "isinstance") (rIsX X.K q.1 cls d) := by
  intro pins s σ H xs us Q I rel ⟨c, cv, b, D, dd, fs, ex, hcv, ec, ed, ea, T, kit, k⟩
  subst ex ec ed
  cases rel with
  | @cons _ u0 _ us0 r0 rest =>
  cases rest with
  | @cons _ u1 _ us1 r1 rest =>
  cases rest
  obtain rfl : u0 = Value.ref q.1 := r0
  obtain rfl := hcv _ r1
  have there := (I.pin q (List.mem_append_left _ C.mem)).1
  obtain ⟨mA, hns, hr⟩ : ObjOk X.prog X.w H s.heap dd (.xd fs) := I.hok dd _ ea
  obtain ⟨od, ho, hl⟩ := lookIn_ns hns
  have inst : PySem.W.InstAt s.heap q.1 q.2 D (some od) := ⟨there, C.zn.1, by obtain ⟨vs, hd⟩ := C.fld; unfold PySem.W.notCls; rw [hd], by rw [C.zn.2.1]; exact ho⟩
  have some_ : (PySem.W.clsIn X.K D).isSome = true := by
    obtain ⟨cd, hc, _⟩ := PySem.W.any_some T.hd
    rw [hc]; rfl
  exact PySem.W.kia_one (PySem.W.kitx_exc some_ T.hg T.hk T.hs T.ha T.hn T.ht T.hm) I.kIn inst kit (fun z => nomatch z) fun tk => ⟨.bl b, H, I.kept (t' := tk) fun _ _ g => g, rfl, k⟩
end
/-! ### defs that are handed a caught exception -/
structure FnE (P : Program) (w : World) (K : PySem.W.Frag) (mg : Str → Option Value) (B : Heap) (n : Nat) (g : Addr) (fd : FuncData) (ps : List Str) (sp : Addr → Value → Option Addr → Sp) : Prop where
  cnt : ∀ a cls d vs H Q E, sp a cls d vs H Q E → vs.length = ps.length
  go : ∀ (A : Around) (ou : List Env) (t : Shared) (H : Hp) (ar : Args) (us : List Value) (vs : List V) (Q : VK) (E : XK) (q : Addr × Obj) (cls : Value) (d : Option Addr), A.guards = some [] → L2H.RoomH n A → ByQ A q → L2N.Zn cls d q.2 → (∃ vs, q.2.data = .fields vs) → L2H.PinOk ou H t q →
    Env0 P w K mg B A ou t H → BindsTo t fd ar (ps.zip us) → Vals vs us → sp q.1 cls d vs H Q E → codeAny (model P w) A (.call (.ref g) ar) (CR L2.CX0 ou P w H t Q E) t
/-- the context of such a def's body -/
abbrev cxE (P : Program) (w : World) (K : PySem.W.Frag) (mg : Str → Option Value) (B : Heap) (N : List Str) (qual : Str) (sc : Scope) (g : Addr) (cd : Value) (A : Around) (ou : List Env) (t : Shared) (H : Hp) (E : XK) (q : Addr × Obj) : Cx :=
  (L2H.cxH L2.CX0 P w K mg B N qual sc g cd A ou t H E q).nox
theorem okE {P : Program} {w : World} {K : PySem.W.Frag} {mg : Str → Option Value} {base : Heap} {x qual : Str} {st : Stmt} {f : Addr} {fd : FuncData} {N ps : List Str} {k : Nat} {sp : Addr → Value → Option Addr → Sp} (F : Fun K x qual st f fd) (S : FnScope N ps (defScope st)) (cnt : ∀ a cls d vs H Q E, sp a cls d vs H Q E → vs.length = ps.length)
    (body : ∀ (cdv : Value) (A : Around) (ou : List Env) (t : Shared) (H : Hp) (vs : List V) (Q : VK) (E : XK) (q : Addr × Obj) (cls : Value) (d : Option Addr), A.guards = some [] → L2H.RoomH k (A.deeper (envOfC qual (defScope st) t.heap.objs.size f cdv)) →
      Caught (cxE P w K mg base N qual (defScope st) f cdv A ou t H E q) q cls d → sp q.1 cls d vs H Q E →
      ∃ r, PSs (cxE P w K mg base N qual (defScope st) f cdv A ou t H E q) (defBody st) r ∧ r ⟨fun _ H' => Q .non H', Q, fun _ _ => False, fun _ _ => False⟩ (L2.start N vs) H) : FnE P w K mg base (k + 1) f fd ps sp where
  cnt := cnt
  go A ou t H ar us vs Q E q cls d hG room hby hz hf hpin env bi rv z := by
    obtain ⟨oc, od, kV, doc, pm, an, cdv, ct, osl, rfl, lk, hcd⟩ := F.ex
    have kin := env.mod.kin.keeps fun b o e => (env.bs b o e).1
    have lim := env.mod.nolimit.keeps fun b o e => (env.bs b o e).1
    have kinds : ∀ y ∈ ps.zip us, (defScope st).names.lookup y.1 = some .local ∨ ((defScope st).names.lookup y.1 = some .cell ∧ ((cellsFrom (t.heap.objs.size + 1) (defScope st).names []).lookup y.1).isSome = true) := fun y hy =>
      (S.par y.1 (List.of_mem_zip (a := y.1) (b := y.2) hy).1).imp id fun e => ⟨e, PySem.W.cellsFrom_some _ _ _ (.inl e)⟩
    refine codeAny_call_function room.depth (kin _ _ lk) rfl S.co S.gen rfl (PySem.W.codeRec_of kin hcd) (bi _ _ _ _ (wpAny_newFunctionEnv_cells S.kind kinds fun env' he t1 inC => ?_))
    subst he
    have cg : Caught (cxE P w K mg base N qual (defScope st) f cdv A ou t H E q) q cls d := ⟨List.mem_singleton.mpr rfl, hby, hz, hf⟩
    obtain ⟨r, hr, hq⟩ := body cdv A ou t H vs Q E q cls d hG (room.deeper _) cg z
    refine ⟨lim.keeps inC.toInCall.keep, codeAny_func (wpAny_mono (hr.nox.run [] t1 (L2.start N vs) H _ (L2H.inv_startH S hpin env (cnt _ _ _ _ _ _ _ z) rv inC) hq) (fun fl t' res => ?_) (fun e t' res => ?_))⟩
    · match fl, res with
      | .ret u, ⟨v, _, H', J, ru, fin⟩ => exact ⟨v, H', J.os, J.bare, J.base, J.hok, ru, fin⟩
      | .next, ⟨_, H', J, fin⟩ => exact ⟨V.non, H', J.os, J.bare, J.base, J.hok, rfl, fin⟩
      | .brk, ⟨_, _, _, no⟩ => exact no.elim
      | .cont, ⟨_, _, _, no⟩ => exact no.elim
    · exact res
section
variable {X : Cx} {n : Nat} {g : Addr} {fd : FuncData} {ps : List Str} {sp : Addr → Value → Option Addr → Sp} {x : Str} {p pos : Pos} {e : Expr} {es : List Expr} {t : TA} {q : Addr × Obj} {cls : Value} {d : Option Addr}
def tCallE (sp : Sp) (t : TA) : TE := fun σ H Q => t σ H fun vs H1 => sp vs H1 Q fun _ _ _ => False
theorem pe_callE (F : FnE X.prog X.w X.K X.mg X.base n g fd ps sp) (C : Caught X q cls d) (hG : X.A.guards = some []) (room : L2H.RoomH n X.A) (gx : Gl X x) (at' : X.mg x = some (.ref g)) (kp : PySem.W.keepIn X.K (.ref g) = true)
    (bi : Binds X.K fd ps []) (ha : PA X (e :: es) t) (hdb : (x == ("__debug__" : Str)) = false := by decide)
    (he : starEach (e :: es) X.env = (false, eval e X.env) :: starEach es X.env := by rfl) (hpl : (backTo pos (starEach es X.env)).any (·.1) = false := by rfl) : PE X (.Call (.Name x p) (e :: es) [] pos) (tCallE (sp q.1 cls d) t) :=
  ⟨fun pins s σ H Q I z => wpAny_Call_Name_kw (ld_glob I gx at'
    (PySem.W.callWith_K (h₀ := X.base) I.ok.mod.kin kp (thn (ha.run pos pins s σ H _ I z) fun us s1 ⟨vs, H1, J, rv, k⟩ => ⟨J.kIn, by
      have len : us.length = ps.length := rv.length ▸ F.cnt _ _ _ _ _ _ _ k
      have bd := bi s1 us J.kIn (by rw [List.append_nil]; exact len)
      rw [List.append_nil] at bd
      have pinned := J.pin q (List.mem_append_left _ C.mem)
      have okp : L2H.PinOk X.stack H1 s1 q := ⟨pinned.1, pinned.2.1, fun hm => by
        rcases List.mem_cons.mp (J.stkSub q.1 hm) with e | e
        · exact pinned.2.2.1 e
        · exact pinned.2.2.2.1 e, pinned.2.2.2.2⟩
      exact wpAny_call (codeAny_mono (F.go X.A X.stack s1 H1 ⟨us, []⟩ _ _ Q _ q cls d hG room C.by_ C.zn C.fld okp J.env0 bd rv k) fun r s' res => by
        match r, res with
        | .ok (.ret v), res => exact J.after res
        | .error _, res => exact res.elim
        | .ok .next, res => exact res.elim
        | .ok .brk, res => exact res.elim
        | .ok .cont, res => exact res.elim)⟩) he hpl) hdb)⟩
/-- .. in an except suite -/
theorem caughtS {X : Cx} {a : Addr} {oe : Obj} {pn : List (Addr × Obj)} (hz : L2N.Zn cls d oe) (hf : ∃ vs, oe.data = .fields vs) : Caught (X.suite a ((a, oe) :: pn)) (a, oe) cls d := ⟨List.mem_cons_self, .inr rfl, hz, hf⟩
theorem pe_callES {X : Cx} {a : Addr} {oe : Obj} {pn : List (Addr × Obj)} (F : FnE X.prog X.w X.K X.mg X.base n g fd ps sp) (hz : L2N.Zn cls d oe) (hf : ∃ vs, oe.data = .fields vs) (hG : X.A.guards = some []) (room : Room n X.A) (gx : Gl X x) (at' : X.mg x = some (.ref g)) (kp : PySem.W.keepIn X.K (.ref g) = true)
    (bi : Binds X.K fd ps []) (ha : PA (X.suite a ((a, oe) :: pn)) (e :: es) t) (hdb : (x == ("__debug__" : Str)) = false := by decide)
    (he : starEach (e :: es) X.env = (false, eval e X.env) :: starEach es X.env := by rfl) (hpl : (backTo pos (starEach es X.env)).any (·.1) = false := by rfl) : PE (X.suite a ((a, oe) :: pn)) (.Call (.Name x p) (e :: es) [] pos) (tCallE (sp a cls d) t) :=
  pe_callE (X := X.suite a ((a, oe) :: pn)) (q := (a, oe)) F (caughtS hz hf) hG (L2H.roomH_mark room _) gx at' kp bi ha hdb he hpl
theorem pe_xfC (C : Caught X q cls d) {e : Expr} {te : TE} {pos : Pos} {f : Str} (he : PE X e te) (hb : attributeBase e f X.env (eval e X.env) = eval e X.env := by rfl) : PE X (.Attribute e f pos) (tXfA X.K q.1 cls d f te) :=
  pe_xfA C.mem C.zn C.fld he hb
end
theorem unitsE {k : Nat} {A : Around} (r : L2H.RoomH k A) : A.units + 64 < cLine := by have := r.un; omega
section
variable {K : PySem.W.Frag} {a : Addr} {cls : Value} {d : Option Addr} {H : Hp} {Q : VK} {σ : L2.St} {sp : Sp} {t : TA}
theorem r_callE (h : t σ H fun vs H1 => sp vs H1 Q fun _ _ _ => False) : tCallE sp t σ H Q := h
/-- isinstance(e, C), C a class of the text -/
theorem r_isR {C D dd : Addr} {fs : List (Str × V)} {b : Bool} (hd : H dd = some (.xd fs)) (T : ExcC K D) (k : PySem.W.kitOne K (.ref D) (.ref C) = some b) (q : Q (.bl b) H) : rIsX K a (.ref D) (some dd) [.ref a, .ref C] H Q :=
  ⟨_, .ref C, b, D, dd, fs, rfl, fun u r => r, rfl, rfl, hd, T, k, q⟩
/-- isinstance(e, ValueError) -/
theorem r_isT {D dd : Addr} {fs : List (Str × V)} {b : Bool} {c : String} (hd : H dd = some (.xd fs)) (T : ExcC K D) (k : PySem.W.kitOne K (.ref D) (.type c) = some b) (q : Q (.bl b) H) : rIsX K a (.ref D) (some dd) [.ref a, .ty c] H Q :=
  ⟨_, .type c, b, D, dd, fs, rfl, fun u r => r, rfl, rfl, hd, T, k, q⟩
end
end Xk
local macro_rules | `(tactic| fail "ww1") => `(tactic| with_reducible refine Xk.r_callE ?_)

set_option Elab.async false
set_option linter.all false
set_option maxRecDepth 100000
set_option maxHeartbeats 20000000
namespace Xk
open PySem PySem.Spec PyProof.Rows L2
/-! ### objects of the text's own classes -/
section
variable {X : Cx} {K : PySem.W.Frag} {f : Str} {o value : Expr} {ta tv : TE} {pos pos' : Pos}
theorem pe_fldK (K : PySem.W.Frag) (he : PE X o ta) (hb : attributeBase o f X.env (eval o X.env) = eval o X.env := by rfl) (hK : X.K = K := by rfl) : PE X (.Attribute o f pos) (tFld K ta f) := hK ▸ pe_fld he hb
theorem ps_fldK (K : PySem.W.Frag) (ha : PE X o ta) (hv : PE X value tv) (hs : swapsWith value (some (.Attribute o f pos')) pos.line X.env = pure false := by rfl) (hK : X.K = K := by rfl) : PS X (.Assign [.Attribute o f pos'] value pos) (sFld K ta tv f) := hK ▸ ps_fld ha hv hs
theorem ps_fldaugK (K : PySem.W.Frag) {op : Operator} {rd : V → V → Hp → VK → Prop} (ha : PE X o ta) (hv : PE X value tv) (hop : InOp X op rd) (hK : X.K = K := by rfl) : PS X (.AugAssign (.Attribute o f pos') op value pos) (sFldAug K ta tv rd f) := hK ▸ ps_fldaug ha hv hop
end
section
variable {K : PySem.W.Frag} {σ : L2.St} {H : Hp} {Q : VK} {D : Ends} {a C dx : Addr} {fs : List (Str × V)} {f : Str} {v y : V} {ta tv : TE} {t : TA} {sp : Sp} {dvs : List V} {E : XK}
/-- a field is read -/
theorem r_fld (h : ta σ H fun x H1 => ∃ a C dx fs v, x = .ref a ∧ H1 a = some (.ins C dx fs) ∧ Cls K C ∧ NoAttr K C f ∧ fs.lookup f = some v ∧ Q v H1) : tFld K ta f σ H Q := h
theorem r_sfld (h : tv σ H fun y H1 => ta σ H1 fun x H2 => ∃ a C dx fs, x = .ref a ∧ H2 a = some (.ins C dx fs) ∧ Cls K C ∧ NoAttr K C f ∧ fs.length < 1000 ∧ D.nx σ (upd H2 a (.ins C dx (putF f y fs)))) : sFld K ta tv f D σ H := h
theorem r_sfldaug {rd : V → V → Hp → VK → Prop} (h : ta σ H fun x H1 => ∃ a C dx fs v, x = .ref a ∧ H1 a = some (.ins C dx fs) ∧ Cls K C ∧ NoAttr K C f ∧ fs.lookup f = some v ∧ tv σ H1 fun y H2 => rd v y H2 fun z H3 => ∃ dx' fs', H3 a = some (.ins C dx' fs') ∧ fs'.length < 1000 ∧ D.nx σ (upd H3 a (.ins C dx' (putF f z fs')))) : sFldAug K ta tv rd f D σ H := h
theorem r_prop (h : ta σ H fun x H1 => ∃ a dx fs, x = .ref a ∧ H1 a = some (.ins C dx fs) ∧ sp (.ref a :: dvs) H1 Q E) : tProp C sp dvs E ta σ H Q := h
theorem r_meth {m : Str} (h : ta σ H fun x H1 => ∃ a dx fs, x = .ref a ∧ H1 a = some (.ins C dx fs) ∧ fs.lookup m = none ∧ t σ H1 fun vs H2 => sp (x :: (vs ++ dvs)) H2 Q E) : tMeth C m sp dvs E ta t σ H Q := h
theorem r_make (h : t σ H fun vs H1 => ∀ x dx, H1 x = none → H1 dx = none → dx ≠ x → sp (.ref x :: (vs ++ dvs)) (upd (upd H1 dx (.own x)) x (.ins C dx [])) (fun v H2 => v = .non ∧ Q (.ref x) H2) E) : tMake C sp dvs E t σ H Q := h
end
end Xk
local macro_rules | `(tactic| fail "ww1") => `(tactic| with_reducible first | refine Xk.r_fld ?_ | refine Xk.r_sfld ?_ | refine Xk.r_sfldaug ?_ | refine Xk.r_prop ?_ | refine Xk.r_meth ?_ | refine Xk.r_make ?_)

set_option Elab.async false
set_option linter.all false
set_option maxRecDepth 100000
set_option maxHeartbeats 20000000
namespace Xk
open PySem PySem.Spec PyProof.Rows L2
/-! ### classes whose methods raise -/
theorem guards_make {A : Around} (h : A.guards = some []) (C : Addr) (us : List Value) (kw : List (Str × Value)) : (A.under (.builtin "type.__call__" ⟨.ref C :: us, kw⟩)).guards = some [] := by
  obtain ⟨hd, d, fr, gs, u⟩ := A
  dsimp only at h
  subst h
  rfl
section
variable {X : Cx} {W : WX} {k : Nat} {f C : Addr} {fd : FuncData} {ps ks : List Str} {sp : Sp} {x m : Str} {p pos apos : Pos} {o : Expr} {kws : List Keyword} {ta : TE} {t tk : TA} {ff : List Value → List Value → List Value} {fV : List V → List V → List V}
theorem run_makeX {pins : List (Addr × Obj)} {σ : L2.St} {H : Hp} {s : Shared} {Q : VK} {us ws : List Value} {vs zs : List V} (M : Mk X.K C f) (F : FnG X.prog X.w X.K X.mg X.base (L2N.CX X.prog X.w) k f fd ps sp) (hG : X.A.guards = some []) (hr : Room (k + 1) X.A) (hb : KBinds X.K fd ps ks ff fV)
    (tw : L2N.Takes X W) (I : Inv X pins σ H s) (r : Vals vs us) (rz : Vals zs ws)
    (h : ∀ x dx, H x = none → H dx = none → dx ≠ x → sp (fV (.ref x :: vs) zs) (upd (upd H dx (.own x)) x (.ins C dx [])) (fun v H2 => v = .non ∧ Q (.ref x) H2) (WE W σ)) :
    wpAny (model X.prog X.w) X.A (PySem.call (.ref C) us (ks.zip ws)) (EP X pins σ Q) X.xe s := by
  have hq := h (s.heap.objs.size + 1) s.heap.objs.size (I.hok.fresh (Nat.le_succ _)) (I.hok.fresh (Nat.le_refl _)) (Nat.ne_of_lt (Nat.lt_succ_self _))
  have I2 := Inv.made (C := C) I
  have r1 : Vals (V.ref (s.heap.objs.size + 1) :: vs) (Value.ref (s.heap.objs.size + 1) :: us) := .cons rfl r
  have r2 := hb.rel r1 rz
  have hl : (ff (Value.ref (s.heap.objs.size + 1) :: us) ws).length = ps.length := r2.length ▸ F.cnt _ _ _ _ hq
  refine wpAny_call (make_map (f := f) I.kIn M.makes M.init (beq_iff_eq.mp M.fn) (codeAny_mono (F.go _ X.stack _ _ ⟨Value.ref (s.heap.objs.size + 1) :: us, ks.zip ws⟩ (ff (Value.ref (s.heap.objs.size + 1) :: us) ws) _ _ (WE W σ) (guards_make hG C us (ks.zip ws)) (hr.make C us (ks.zip ws))
    (I2.env0.make C us (ks.zip ws)) (hb.to _ (Value.ref (s.heap.objs.size + 1) :: us) ws I2.kIn hl) r2 hq) fun r s' hq' => ?_))
  cases r with
  | error e => exact L2N.passAt tw σ pins _ _ e s' I2 hq'
  | ok fl =>
    cases fl with
    | ret u =>
      obtain ⟨v, H', I3, rv, ev, q3⟩ := I2.after hq'
      subst ev
      exact ⟨rv, ⟨V.ref (s.heap.objs.size + 1), H', I3, rfl, q3⟩⟩
    | next => exact False.elim hq'
    | brk => exact False.elim hq'
    | cont => exact False.elim hq'
/-- C(k = v, ..), whose __init__ may raise -/
def tMakeX (C : Addr) (sp : Sp) (fV : List V → List V → List V) (W : WX) (tk : TA) : TE := fun σ H Q => tk σ H fun zs H1 => ∀ x dx, H1 x = none → H1 dx = none → dx ≠ x → sp (fV [.ref x] zs) (upd (upd H1 dx (.own x)) x (.ins C dx [])) (fun v H2 => v = .non ∧ Q (.ref x) H2) fun cls d H' => W cls d σ H'
theorem pe_makeXK0 (M : Mk X.K C f) (F : FnG X.prog X.w X.K X.mg X.base (L2N.CX X.prog X.w) k f fd ps sp) (hG : X.A.guards = some []) (hr : Room (k + 1) X.A) (hg : Gl X x) (hm : X.mg x = some (.ref C)) (hb : KBinds X.K fd ps ks ff fV)
    (tw : L2N.Takes X W) (hkw : PK X kws tk) (hdb : (x == ("__debug__" : Str)) = false := by decide)
    (all' : (backToKw pos (keywordEach kws X.env)).all (·.1.isSome) = true := by rfl) (nms : (backToKw pos (keywordEach kws X.env)).filterMap (·.1) = ks := by rfl)
    (hpl : ((backTo pos (starEach [] X.env)).any (·.1) || (backToKw pos (keywordEach kws X.env)).any (·.1.isNone)) = false := by rfl) :
    PE X (.Call (.Name x p) [] kws pos) (tMakeX C sp fV W tk) := by
  subst nms
  exact ⟨fun pins s σ H Q I z => wpAny_Call_Name_kw (ld_glob I hg hm
    (PySem.W.callWith_KW0 (h₀ := X.base) I.ok.mod.kin M.kp all' (thn (hkw.run pos pins s σ H _ I z) fun ws s2 ⟨zs, H2, I2, rz, q2⟩ => ⟨I2.kIn, run_makeX M F hG hr hb tw I2 .nil rz q2⟩) hpl) hdb)⟩
/-- o.m(k = v, ..), which may raise -/
def tMethX (C : Addr) (m : Str) (sp : Sp) (fV : List V → List V → List V) (W : WX) (ta : TE) (tk : TA) : TE := fun σ H Q => ta σ H fun x H1 => ∃ a dx fs, x = .ref a ∧ H1 a = some (.ins C dx fs) ∧ fs.lookup m = none ∧ tk σ H1 fun zs H2 => sp (fV [x] zs) H2 Q fun cls d H' => W cls d σ H'
theorem pe_methXK0 {pl : Sem Bool} (he : PE X o ta) (c : Cls X.K C) (hm : Meth X.K C m f) (F : FnG X.prog X.w X.K X.mg X.base (L2N.CX X.prog X.w) k f fd ps sp) (hG : X.A.guards = some []) (hr : Room k X.A) (hb : KBinds X.K fd ps ks ff fV)
    (tw : L2N.Takes X W) (hkw : PK X kws tk)
    (all' : (backToKw pos (keywordEach kws X.env)).all (·.1.isSome) = true := by rfl) (nms : (backToKw pos (keywordEach kws X.env)).filterMap (·.1) = ks := by rfl)
    (hpl : ((backTo pos (starEach [] X.env)).any (·.1) || (backToKw pos (keywordEach kws X.env)).any (·.1.isNone)) = false := by rfl)
    (ht : eval (.Call (.Attribute o m apos) [] kws pos) X.env = (do
      let ov ← eval o X.env
      standAt apos.atName
      let (f, first) ← holding [ov] (getMethod ov m pl)
      callWith pos f first (backTo pos (starEach [] X.env)) (backToKw pos (keywordEach kws X.env))) := by rfl) :
    PE X (.Call (.Attribute o m apos) [] kws pos) (tMethX C m sp fV W ta tk) := by
  subst nms
  refine ⟨fun pins s σ H Q I h => ?_⟩
  refine PySem.W.methodCall_KW (pl := pl) (thn (he.run pins s σ H _ I h) fun u s1 ⟨x, H1, I1, rx, a, dx, fs, ex, ea, l, q⟩ => ?_) ht
  subst ex
  obtain rfl : u = Value.ref a := rx
  refine getmeth_ok I1 ea c hm l ?_
  refine PySem.W.callWith_KW0 (first := [.ref a]) (h₀ := X.base) I1.ok.mod.kin hm.kp all' (thn (hkw.run pos pins s1 σ H1 _ I1 q) fun ws s2 ⟨zs, H2, I2, rz, q2⟩ => ⟨I2.kIn, ?_⟩) hpl
  exact goXK (us := [.ref a]) (vs := [.ref a]) F hG hr hb tw I2 (.cons rfl .nil) rz q2
end
section
variable {K : PySem.W.Frag} {σ : L2.St} {H : Hp} {Q : VK} {C : Addr} {sp : Sp} {fV : List V → List V → List V} {W : WX} {ta : TE} {tk : TA} {m : Str}
theorem r_makeX (h : tk σ H fun zs H1 => ∀ x dx, H1 x = none → H1 dx = none → dx ≠ x → sp (fV [.ref x] zs) (upd (upd H1 dx (.own x)) x (.ins C dx [])) (fun v H2 => v = .non ∧ Q (.ref x) H2) fun cls d H' => W cls d σ H') : tMakeX C sp fV W tk σ H Q := h
theorem r_methX (h : ta σ H fun x H1 => ∃ a dx fs, x = .ref a ∧ H1 a = some (.ins C dx fs) ∧ fs.lookup m = none ∧ tk σ H1 fun zs H2 => sp (fV [x] zs) H2 Q fun cls d H' => W cls d σ H') : tMethX C m sp fV W ta tk σ H Q := h
end
/-! ### isinstance of a caught exception, by a tuple of classes -/
def rIsXT (K : PySem.W.Frag) (a : Addr) (cls : Value) (d : Option Addr) : List V → Hp → VK → Prop := fun xs H Q => ∃ (tp : Addr) (cs : List V) (us : List Value) (b : Bool) (D dd : Addr) (fs : List (Str × V)), xs = [.ref a, .ref tp] ∧ H tp = some (.tup cs) ∧ Paired ClsV cs us ∧ cls = .ref D ∧ d = some dd ∧ H dd = some (.xd fs) ∧ ExcC K D ∧ PySem.W.kitAny K (.ref D) us = some b ∧ Q (.bl b) H
theorem call_isXT {X : Cx} {q : Addr × Obj} {cls : Value} {d : Option Addr} (C : Caught X q cls d) : CallR X (.builtin "isinstance") (rIsXT X.K q.1 cls d) := by
  intro pins s σ H xs us Q I rel ⟨tp, cs, ws, b, D, dd, fs, ex, hT, kk, ec, ed, ea, T, kit, k⟩
  subst ex ec ed
  cases rel with
  | @cons _ u0 _ us0 r0 rest =>
  cases rest with
  | @cons _ u1 _ us1 r1 rest =>
  cases rest
  obtain rfl : u0 = Value.ref q.1 := r0
  obtain rfl : u1 = Value.ref tp := r1
  obtain ⟨_, its, rv, o, h1, h2, n, h3⟩ := (show ObjOk X.prog X.w H s.heap tp (.tup cs) from I.hok tp _ hT)
  have e3 := ClsV.all kk rv
  subst e3
  obtain ⟨oc, od', dt, sl⟩ := o
  simp only at h2 h3
  subst h2 h3
  have there := (I.pin q (List.mem_append_left _ C.mem)).1
  obtain ⟨mA, hns, hr⟩ : ObjOk X.prog X.w H s.heap dd (.xd fs) := I.hok dd _ ea
  obtain ⟨od, ho, hl⟩ := lookIn_ns hns
  have inst : PySem.W.InstAt s.heap q.1 q.2 D (some od) := ⟨there, C.zn.1, by obtain ⟨vs, hd⟩ := C.fld; unfold PySem.W.notCls; rw [hd], by rw [C.zn.2.1]; exact ho⟩
  have some_ : (PySem.W.clsIn X.K D).isSome = true := by
    obtain ⟨cd, hc, _⟩ := PySem.W.any_some T.hd
    rw [hc]; rfl
  exact PySem.W.kia_tup (PySem.W.kitx_exc some_ T.hg T.hk T.hs T.ha T.hn T.ht T.hm) I.kIn inst h1 kit (fun z => nomatch z) fun tk => ⟨.bl b, H, I.kept (t' := tk) fun _ _ g => g, rfl, k⟩
theorem r_isXT {K : PySem.W.Frag} {a tp D dd : Addr} {H : Hp} {Q : VK} {cs : List V} {us : List Value} {fs : List (Str × V)} {b : Bool} (hd : H dd = some (.xd fs)) (T : ExcC K D) (hT : H tp = some (.tup cs)) (kk : Paired ClsV cs us) (k : PySem.W.kitAny K (.ref D) us = some b) (q : Q (.bl b) H) : rIsXT K a (.ref D) (some dd) [.ref a, .ref tp] H Q :=
  ⟨tp, cs, us, b, D, dd, fs, rfl, hT, kk, rfl, rfl, hd, T, k, q⟩
section
variable {X : Cx}
/-- l.count(x), flat values -/
def rCntF (K : PySem.W.Frag) : V → List V → Hp → VK → Prop := fun x xs H Q => ∃ (p : Addr) (ys : List V) (y : V), x = .ref p ∧ xs = [y] ∧ SqL K H p ys ∧ flatV y = true ∧ ys.all flatV = true ∧ Q (.int (ys.countP (fun z => eqV z y) : Nat)) H
theorem cnt_eqU {x : V} : ∀ {xs : List V} {us : List Value}, Vals xs us → xs.all flatV = true → us.countP (eqU x) = xs.countP fun y => eqV y x
  | _, _, .nil, _ => rfl
  | y :: xs, u :: us, .cons r t, f => by
    rw [List.all_cons, Bool.and_eq_true] at f
    rw [List.countP_cons, List.countP_cons, cnt_eqU t f.2, eqU_of r f.1]
theorem mt_lcountF : MtR X "list.count" (rCntF X.K) := by
  intro pins s σ H x xs v us Q I rx rxs h
  obtain ⟨p, ys, y, rfl, rfl, hs, fy, fys, q⟩ := h
  cases rx
  obtain ⟨u, rfl, ru⟩ := rxs.one
  obtain ⟨its, rv, ⟨⟨cls, dd, data, sl⟩, n, ho, hc, hdn, hd⟩, hlen⟩ := I.list hs
  simp only at hc hd
  subst hc hd
  refine call_meets PySem.F.slot_list_count ⟨_, ho, rfl⟩ PySem.F.entry_list_count (PySem.F.args_list_count_2 _ _)
    (SeqAt.list_countAt p its.toArray n dd sl u (eqU y)) ⟨ho, fun z hz => mem_eqAt ru fy rv fys z (by simpa using hz), ?_⟩
  refine ⟨.int (ys.countP (fun z => eqV z y) : Nat), H, I.tok _, ⟨s.toks, ?_⟩, q⟩
  show Value.int ((its.toArray.toList.countP (eqU y) : Nat) : Int) s.toks = _
  rw [show its.toArray.toList = its from rfl, cnt_eqU rv fys]
theorem lcountF (K : PySem.W.Frag) (hK : X.K = K := by rfl) : MtR X "list.count" (rCntF K) := hK ▸ mt_lcountF
end
end Xk
local macro_rules | `(tactic| fail "ww1") => `(tactic| with_reducible first | refine Xk.r_makeX ?_ | refine Xk.r_methX ?_)

set_option Elab.async false
set_option linter.all false
set_option maxRecDepth 100000
set_option maxHeartbeats 20000000
namespace Xk
open PySem PySem.Spec PyProof.Rows L2
/-! ### try .. except x as n: suite, and the exception held on behind -/
/-- what the clause wishes, where the rest is u and knows the exception -/
def wHold (K : PySem.W.Frag) (c : Value) (i : Nat) (ts u : Addr → Value → Option Addr → TS) (Wout : WX) (D : Ends) : WX := fun cls d σ H =>
  ∃ b, PySem.W.exmOne K cls c = some b ∧ (b = true → ∀ a, H a = none → ts a cls d ⟨fun σ' H' => u a cls d D (σ'.set i none) H', D.rt, fun σ' H' => D.bk (σ'.set i none) H', fun σ' H' => D.ct (σ'.set i none) H'⟩ (σ.set i (some (.ref a))) H) ∧ (b = false → Wout cls d σ H)
section
variable {X : Cx} {pins : List (Addr × Obj)} {σ : L2.St} {H : Hp} {s : Shared} {a : Addr} {oe : Obj}
/-- behind the suite, the exception still pinned -/
theorem Inv_held (I : Inv (X.suite a ((a, oe) :: (X.pn ++ pins))) [] σ H s) (ok : X.Ok) : Inv X ((a, oe) :: pins) σ H s :=
  ⟨ok, I.os, I.bare, I.base, I.loc, I.cell, I.free, I.freeC, fun p hp => I.pin p (by
    rw [List.append_nil]
    rcases List.mem_append.mp hp with h | h
    · exact List.mem_cons_of_mem _ (List.mem_append_left _ h)
    · rcases List.mem_cons.mp h with e | h
      · rw [e]; exact List.mem_cons_self
      · exact List.mem_cons_of_mem _ (List.mem_append_right _ h)), I.hok, I.len⟩
theorem Inv_hold (I : Inv X ((a, oe) :: pins) σ H s) : Inv (X.tr ((a, oe) :: X.pn) X.xe) pins σ H s :=
  ⟨I.ok.toTry _ _, I.os, I.bare, I.base, I.loc, I.cell, I.free, I.freeC, fun p hp => I.pin p (by
    rcases List.mem_cons.mp hp with e | h
    · rw [e]; exact List.mem_append_right _ List.mem_cons_self
    · rcases List.mem_append.mp h with h | h
      · exact List.mem_append_left _ h
      · exact List.mem_append_right _ (List.mem_cons_of_mem _ h)), I.hok, I.len⟩
theorem Inv_drop {pn : List (Addr × Obj)} (I : Inv (X.tr ((a, oe) :: X.pn) X.xe) pins σ H s) (ok : X.Ok) : Inv X pins σ H s :=
  ⟨ok, I.os, I.bare, I.base, I.loc, I.cell, I.free, I.freeC, fun p hp => I.pin p (List.mem_cons_of_mem _ hp), I.hok, I.len⟩
theorem Inv_drop0 {q : Addr × Obj} (I : Inv X (q :: pins) σ H s) : Inv X pins σ H s :=
  ⟨I.ok, I.os, I.bare, I.base, I.loc, I.cell, I.free, I.freeC, fun p hp => I.pin p (by
    rcases List.mem_append.mp hp with h | h
    · exact List.mem_append_left _ h
    · exact List.mem_append_right _ (List.mem_cons_of_mem _ h)), I.hok, I.len⟩
end
section
variable {X : Cx} {x n : Str} {c : Value} {i : Nat} {body suite rest : List Stmt} {b₀ : Stmt} {np pos pos' : Pos} {tb : WX → TS} {ts u : Addr → Value → Option Addr → TS} {tr : TS} {Wout : WX}
theorem pss_hold (hs : X.stack = X.env :: X.outer) (hf : X.env.frame = some X.env.locals) (hN : X.N.Nodup) (hi : X.N[i]? = some n) (hln : X.env.kindOf n = some .local) (hc : Names X x c) (tk : L2N.Takes X Wout)
    (hb : ∀ (W : WX) (pn : List (Addr × Obj)) (xe : Value → Shared → Prop), L2N.Takes (X.tr pn xe) W → PassesOwn (model X.prog X.w) X.A X.env xe → PSs (X.tr pn xe) body (tb W))
    (hsu : ∀ (a : Addr) (oe : Obj) (cls : Value) (d : Option Addr) (pn : List (Addr × Obj)), L2N.Zn cls d oe → (∃ vs, oe.data = .fields vs) → PSs (X.suite a ((a, oe) :: pn)) (b₀ :: suite) (ts a cls d))
    (hr : PSs X rest tr)
    (hu : ∀ (a : Addr) (oe : Obj) (cls : Value) (d : Option Addr), L2N.Zn cls d oe → (∃ vs, oe.data = .fields vs) → PSs (X.tr ((a, oe) :: X.pn) X.xe) rest (u a cls d)) :
    PSs X (.Try body [.ExceptHandler (some (.Name x np)) (some n) (b₀ :: suite) pos'] [] [] pos :: rest) (fun D σ H => tb (wHold X.K c i ts u Wout D) { D with nx := tr D } σ H) := by
  refine ⟨fun pins s σ H D I h => wpAny_execs_cons (wpAny_Try_except ?_)⟩
  have ok := I.ok
  have hfr : X.A.frames = some (X.env :: X.outer) := by rw [ok.frames, hs]
  -- what is due behind the statement
  obtain ⟨Mid, eM⟩ : ∃ Mid : Flow → Shared → Prop, Mid = fun f s' => match f with
    | .next => wpAny (model X.prog X.w) X.A (execs rest X.env) (SP X pins D) X.xe s'
    | f => SP X pins D f s' := ⟨_, rfl⟩
  have key : L2N.Takes (X.tr (X.pn ++ pins) (fun e s₁ => wpAny (model X.prog X.w) X.A (noteFrame e X.env) (fun _ s₂ => wpAny (model X.prog X.w) X.A (setFlight e none) (fun _ s₃ =>
    wpAny (model X.prog X.w) X.A (handleBy e X.env [.ExceptHandler (some (.Name x np)) (some n) (b₀ :: suite) pos']) Mid X.xe s₃) X.xe s₂) X.xe s₁)) (wHold X.K c i ts u Wout D) := fun v s' xx => ?_
  · have E0 := (hb (wHold X.K c i ts u Wout D) _ _ key PassesOwn.looking).run [] s σ H { D with nx := tr D } (I.toTry _) h
    subst eM
    refine wpAny_mono E0 (fun f s1 z => ?_) (fun e s1 z => z)
    cases f with
    | next =>
      obtain ⟨σ', H', J, q⟩ := z
      exact wpAny_execs_nil (hr.run pins s1 σ' H' D (J.ofTry ok) q)
    | ret w => obtain ⟨v, σ', H', J, rv, q⟩ := z; exact ⟨v, σ', H', J.ofTry ok, rv, q⟩
    | brk => obtain ⟨σ', H', J, q⟩ := z; exact ⟨σ', H', J.ofTry ok, q⟩
    | cont => obtain ⟨σ', H', J, q⟩ := z; exact ⟨σ', H', J.ofTry ok, q⟩
  · obtain ⟨a, B, sI, pins', σ', H', cls, d, rfl, J', nb, up, sky, na, os, ag, b, hb1, hyes, hno⟩ := xx
    have J : Inv X pins σ' H' sI := J'.ofTry ok
    rw [hs] at sky
    show wpAny (model X.prog X.w) X.A (noteFrame (.ref a) X.env) _ _ _
    refine L2N.Sky.land L2N.Zn.steady hfr hf sky fun h3 fl up3 => ?_
    have J3 : Inv X pins σ' H' { s' with heap := h3 } := J.landed nb fl.1 (up.trans up3) os ag
    obtain ⟨o3, w3, g3, z3, f3⟩ := fl.there
    have away : a ∉ frs (X.env :: X.outer) := fun hm => by
      obtain ⟨_, o', e', hnf⟩ := fl.2.2.1.mem hm
      rw [g3] at e'
      cases e'
      exact hnf _ f3
    have nL : a ≠ X.env.locals := fun z => away (List.mem_filterMap.mpr ⟨X.env, List.mem_cons_self, by rw [hf, z]⟩)
    have nF : a ∉ X.fs := fun hm => by
      obtain ⟨e, he, q⟩ := List.mem_filterMap.mp hm
      exact away (List.mem_filterMap.mpr ⟨e, List.mem_cons_of_mem _ he, q⟩)
    have S3 := J3.suite g3 f3 na nL nF
    have LT : PySem.W.Looks (model X.prog X.w) h3 (typeOf (.ref a)) cls := fun A Q E s k q => wpAny_typeOf_ref (k _ _ g3) (by rw [z3.1]; exact q)
    have LM := PySem.W.exm_one (M := model X.prog X.w) J3.kIn LT hb1
    have test : ∀ {Q : Value → Shared → Prop} {E : Value → Shared → Prop}, Q c { s' with heap := h3 } → wpAny (model X.prog X.w) (X.A.mark (some (.ref a))) (eval (.Name x np) X.env) Q E { s' with heap := h3 } := fun {Q E} q => by
      obtain ⟨gx, dx, at' | ⟨no, iv, nn⟩⟩ := hc
      · exact ld_glob (X := X.suite a ((a, o3) :: (X.pn ++ pins))) S3 gx at' q dx
      · exact ld_blt (X := X.suite a ((a, o3) :: (X.pn ++ pins))) S3 gx no iv q nn dx
    refine wpAny_handleBy_cons (codeAny_handlers_test (test (LM.here ?_))) (by intro q; cases q)
    cases b with
    | false =>
      refine wpAny_handleBy_nil ?_
      obtain ⟨_, _, _, o5, w5, T5, oT5, t5, g5, z5, f5, h15, hr5⟩ := id fl
      unfold PySem.passOn
      refine wpAny_bind (wpAny_field g5 f5 h15 ?_)
      rw [if_neg (show ¬ ((Value.ref T5 == Value.none) = true) from by simp)]
      have fin : wpAny (model X.prog X.w) X.A (setFlight (.ref a) X.env.frame) (fun _ s4 => wpAny (model X.prog X.w) X.A (throw (.ref a) : Sem Flow) Mid X.xe s4) X.xe { s' with heap := h3 } := by
        rw [hf]
        refine HandSPX.setFlight_upZ fl fun h4 held up4 => wpAny_throw (tk _ _ ?_)
        exact ⟨a, B, sI, pins, σ', H', cls, d, rfl, J, nb, (up.trans up3).trans up4, .inr (.inr (by rw [hs]; exact held)), na, os, ag, hno rfl⟩
      first
        | exact wpAny_bind (wpAny_pure (wpAny_bind fin))
        | exact wpAny_bind fin
    | true =>
      refine codeAny_handlers_suite_as (HandSPX.lands_againZ fl fun h4 fl4 up4 => ?_)
      have J4 : Inv X pins σ' H' { s' with heap := h4 } := J.landed nb fl4.1 ((up.trans up3).trans up4) os ag
      obtain ⟨o4, w4, g4, z4, f4⟩ := fl4.there
      have S4 := J4.suite g4 f4 na nL nF
      refine store_ok (X := X.suite a ((a, o4) :: (X.pn ++ pins))) (v := .ref a) S4 hN hi (.inl hln) rfl (fun s5 S5 => ?_) (.inr hln)
      refine wpAny_mono ((hsu a o4 cls d (X.pn ++ pins) z4 ⟨_, f4⟩).run [] s5 _ H' _ S5 (hyes rfl a na)) (fun f s6 z => ?_) (fun _ _ z => False.elim z)
      have gone : ∀ {σ6 : L2.St} {H6 : Hp} {Q : Shared → Prop}, Inv (X.suite a ((a, o4) :: (X.pn ++ pins))) [] σ6 H6 s6 → (∀ s7, Inv X ((a, o4) :: pins) (σ6.set i none) H6 s7 → Q s7) →
          wpAny (model X.prog X.w) X.A (do bindName X.env n .none; unbindBehindTheSuite X.env n pos') (fun _ s7 => Q s7) X.xe s6 := fun {σ6 H6 Q} S6 hq => gone_ok (Inv_held S6 ok) hN hi hln hq
      subst eM
      cases f with
      | next =>
        obtain ⟨σ6, H6, S6, q⟩ := z
        refine gone S6 fun s7 J7 => ?_
        refine wpAny_mono ((hu a o4 cls d z4 ⟨_, f4⟩).run pins s7 _ H6 D (Inv_hold J7) q) (fun f s8 z => ?_) (fun e s1 z => z)
        cases f with
        | next => obtain ⟨σ', H', J, q⟩ := z; exact ⟨σ', H', Inv_drop (pn := []) J ok, q⟩
        | ret w => obtain ⟨v, σ', H', J, rv, q⟩ := z; exact ⟨v, σ', H', Inv_drop (pn := []) J ok, rv, q⟩
        | brk => obtain ⟨σ', H', J, q⟩ := z; exact ⟨σ', H', Inv_drop (pn := []) J ok, q⟩
        | cont => obtain ⟨σ', H', J, q⟩ := z; exact ⟨σ', H', Inv_drop (pn := []) J ok, q⟩
      | brk => obtain ⟨σ6, H6, S6, q⟩ := z; exact gone S6 fun s7 J7 => ⟨_, _, Inv_drop0 J7, q⟩
      | cont => obtain ⟨σ6, H6, S6, q⟩ := z; exact gone S6 fun s7 J7 => ⟨_, _, Inv_drop0 J7, q⟩
      | ret w => obtain ⟨v, σ6, H6, S6, rv, q⟩ := z; exact gone S6 fun s7 J7 => ⟨_, _, _, Inv_drop0 J7, rv, q⟩
end
/-- the exception that is held, where nothing is handled -/
theorem caughtH {X : Cx} {a : Addr} {oe : Obj} {cls : Value} {d : Option Addr} {k : Nat} (hr : Room k X.A) (hz : L2N.Zn cls d oe) (hf : ∃ vs, oe.data = .fields vs) : Caught (X.tr ((a, oe) :: X.pn) X.xe) (a, oe) cls d := ⟨List.mem_cons_self, .inl hr.hd, hz, hf⟩
section
variable {X : Cx} {a : Addr} {oe : Obj} {cls : Value} {d : Option Addr} {n k : Nat} {g : Addr} {fd : FuncData} {ps : List Str} {sp : Addr → Value → Option Addr → Sp} {x : Str} {p pos : Pos} {e : Expr} {es : List Expr} {t : TA}
theorem pe_callEH (F : FnE X.prog X.w X.K X.mg X.base n g fd ps sp) (hz : L2N.Zn cls d oe) (hf : ∃ vs, oe.data = .fields vs) (hG : X.A.guards = some []) (hr : Room n X.A) (gx : Gl X x) (at' : X.mg x = some (.ref g)) (kp : PySem.W.keepIn X.K (.ref g) = true)
    (bi : Binds X.K fd ps []) (ha : PA (X.tr ((a, oe) :: X.pn) X.xe) (e :: es) t) (hdb : (x == ("__debug__" : Str)) = false := by decide)
    (he : starEach (e :: es) X.env = (false, eval e X.env) :: starEach es X.env := by rfl) (hpl : (backTo pos (starEach es X.env)).any (·.1) = false := by rfl) : PE (X.tr ((a, oe) :: X.pn) X.xe) (.Call (.Name x p) (e :: es) [] pos) (tCallE (sp a cls d) t) :=
  pe_callE (X := X.tr ((a, oe) :: X.pn) X.xe) (q := (a, oe)) F (caughtH hr hz hf) hG (L2H.roomH_of hr) gx at' kp bi ha hdb he hpl
theorem pe_xfH {f : Str} {te : TE} (hr : Room k X.A) (hz : L2N.Zn cls d oe) (hf : ∃ vs, oe.data = .fields vs) (he : PE (X.tr ((a, oe) :: X.pn) X.xe) e te) (hb : attributeBase e f X.env (eval e X.env) = eval e X.env := by rfl) :
    PE (X.tr ((a, oe) :: X.pn) X.xe) (.Attribute e f pos) (tXfA X.K a cls d f te) := pe_xfC (X := X.tr ((a, oe) :: X.pn) X.xe) (caughtH hr hz hf) he hb
end
/-- an expression that is not come to -/
theorem pe_never {X : Cx} {e : Expr} : PE X e (fun _ _ _ => False) := ⟨fun _ _ _ _ _ _ z => z.elim⟩
end Xk

set_option Elab.async false
set_option linter.all false
set_option maxRecDepth 100000
set_option maxHeartbeats 20000000
namespace Xk
open PySem PySem.Spec PyProof.Rows L2 GenW
/-! ### a generator def whose first statement raises, where nothing is handled -/
/-- the body's context: as a def's that raises; pn, the generator's own object, stands -/
abbrev gcxN (P : Program) (w : World) (K : PySem.W.Frag) (mg : Str → Option Value) (B : Heap) (N : List Str) (qual : Str) (sc : Scope) (g : Addr) (cd : Value) (A : Around) (ou : List Env) (t : Shared) (H : Hp) (E : XK) (pn : List (Addr × Obj)) : Cx :=
  { cxOf (L2N.CX P w) P w K mg B N qual sc g cd A ou t H E with
    pn := pn
    xe := fun x t1 => wpAny (model P w) (A.deeper (envOfC qual sc t.heap.objs.size g cd)) (leaving (envOfC qual sc t.heap.objs.size g cd) x) (fun _ t2 => L2N.CX P w ou H t E x t2 ∧ ∀ q ∈ pn, t2.heap.get? q.1 = some q.2) (fun _ _ => False) t1 }
/-- it leaves the body; what is pinned stands behind it -/
theorem leave_pn {X : Cx} {W : WX} {E : XK} {t : Shared} (h1 : X.stack = X.env :: X.outer) (h2 : X.env.frame = some X.env.locals) (h3 : X.ex = []) {F : Value → Shared → Prop} (hW : ∀ c d σ H, W c d σ H → E c d H) {u : Value} (x : L2N.XE X W u t) :
    wpAny (model X.prog X.w) X.A (leaving X.env u) (fun _ t2 => L2N.CX X.prog X.w X.outer X.H_0 X.s_0 E u t2 ∧ ∀ q ∈ X.pn, t2.heap.get? q.1 = some q.2) F t := by
  obtain ⟨a, B, sI, pins, σ, H, c, d, rfl, I, nb, up, sky, na, os, ag, w⟩ := x
  have no : ∀ b, b ∉ X.ex := fun b hb => by rw [h3] at hb; exact nomatch hb
  have out : ∀ b o, X.s_0.heap.get? b = some o → b ∉ X.fs → b ∉ frs X.stack := fun b o e hb hm => (List.mem_cons.mp (I.stkSub b hm)).elim (fun z => by
    exact Nat.lt_irrefl _ (Nat.lt_of_lt_of_le (z ▸ Heap.lt_size e) I.ok.above)) hb
  have pinB : ∀ q ∈ X.pn, B.get? q.1 = some q.2 := fun q hq => by
    have p := I.pin q (List.mem_append_left _ hq)
    exact nb q.1 q.2 p.1 fun hm => (List.mem_cons.mp (I.stkSub q.1 hm)).elim p.2.2.1 p.2.2.2.1
  have gB := I.inGround nb
  have fr : X.A.frames = some (X.env :: X.outer) := by rw [I.ok.frames, h1]
  have fin : ∀ h, HandSPX.FlyingZ B X.outer a (L2N.Zn c d) h → t.heap.UpToSlots h → (L2N.CX X.prog X.w X.outer X.H_0 X.s_0 E (.ref a) { t with heap := h } ∧ ∀ q ∈ X.pn, ({ t with heap := h } : Shared).heap.get? q.1 = some q.2) := fun h fl hu => by
    refine ⟨⟨a, B, H, c, d, rfl, fl, gB, ⟨fun b o e n hb => nb b o (I.base.keep b o e n hb (no b)) (out b o e hb), fun b o e hb => ?_, fun b o e n => I.base.free b o e n (no b), fun b o e hb => ?_, I.base.tups, I.base.frzs, I.base.tbls⟩, na, os.trans I.os, ag, hW _ _ _ _ w⟩, fun q hq => fl.1 q.1 q.2 (pinB q hq)⟩
    · obtain ⟨_, o0, e0, nf⟩ := I.ok.funs.mem hb
      cases e.symm.trans e0
      obtain ⟨z1, y1⟩ := I.base.slot b o e (I.ok.frf b hb) hb (no b)
      obtain ⟨z2, y2⟩ := up b _ y1 nf
      exact hu b _ y2 nf |>.imp fun _ y => y
    · exact (I.base.there b o e (no b)).imp fun o2 e2 => nb b o2 e2 (out b o e hb)
  rw [h1] at sky
  rcases sky with ⟨y1, y2, y3, oe, vs, y4, y5, y6, y7⟩ | fl | hd
  · exact PXN.leaving_firstZ L2N.Zn.steady fr y3 h2 y4 y1 y2 y6 y7 y5 fin
  · exact PXN.leaves_onZ L2N.Zn.steady fr h2 fl fin
  · exact HandSPX.leaves_heldZ h2 hd fin
section
variable {P : Program} {w : World} {K : PySem.W.Frag} {mg : Str → Option Value} {B : Heap} {N : List Str} {qual : Str} {sc : Scope} {g : Addr} {cd : Value} {A : Around} {ou : List Env} {t : Shared} {H : Hp} {E : XK} {pn : List (Addr × Obj)}
theorem takes_gcxN : L2N.Takes (gcxN P w K mg B N qual sc g cd A ou t H E pn) (fun c d _ H' => E c d H') := fun u t1 x =>
  leave_pn (W := fun c d _ H' => E c d H') (E := E) rfl rfl rfl (fun _ _ _ _ h => h) x
end
/-- how its run ends -/
def RX (P : Program) (w : World) (ou : List Env) (H : Hp) (t : Shared) (E : XK) (a : Addr) (n : Nat) : GenEnd := fun _ _ r t1 => ∃ e, r = .error e ∧ L2N.CX P w ou H t E e t1 ∧ t1.heap.IsGen a n
def YNo : Protocol := fun _ _ _ _ _ => False
/-- what the call gives: a generator that raises as soon as it is woken -/
structure MadeX (P : Program) (w : World) (k : Nat) (ou : List Env) (H : Hp) (t : Shared) (E : XK) (a : Addr) (n : Nat) (c : Code) (t1 : Shared) : Prop where
  low : t.heap.objs.size ≤ a
  high : a < t1.heap.objs.size
  gen : t1.heap.IsGen a n
  fresh : t1.gens[n]? = some (.fresh c)
  os : t1.os = t.os
  bare : AllBare t1.gens
  lim : t1.heap.NoLimit
  kept : ∀ b o, t.heap.get? b = some o → t1.heap.get? b = some o
  wake : ∀ (A : Around) (t2 : Shared), A.guards = some [] → Room k A → A.frames = some ou → (∀ b o, t1.heap.get? b = some o → t2.heap.get? b = some o) → t2.os = t.os → AllBare t2.gens →
    Seg (model P w) A (RX P w ou H t E a n) YNo sizeLine t2 c ((model P w).den c) [] t2
def GMadeX (P : Program) (w : World) (k : Nat) (ou : List Env) (H : Hp) (t : Shared) (E : XK) (u : Value) (t1 : Shared) : Prop := ∃ (a : Addr) (n : Nat) (c : Code), u = .ref a ∧ MadeX P w k ou H t E a n c t1
/-- what such a def is handed, and what it raises -/
abbrev SpX := List V → Hp → XK → Prop
structure GFnX (P : Program) (w : World) (K : PySem.W.Frag) (mg : Str → Option Value) (B : Heap) (k : Nat) (f : Addr) (fd : FuncData) (ps : List Str) (sp : SpX) : Prop where
  cnt : ∀ vs H E, sp vs H E → vs.length = ps.length
  go : ∀ (A : Around) (ou : List Env) (t : Shared) (H : Hp) (ar : Args) (us : List Value) (vs : List V) (E : XK), Room k A → Env0 P w K mg B A ou t H → BindsTo t fd ar (ps.zip us) → Vals vs us → sp vs H E →
    codeAny (model P w) A (.call (.ref f) ar) (fun r t1 => match r with | .ok (.ret u) => GMadeX P w k ou H t E u t1 | _ => False) t
theorem okGX {P : Program} {w : World} {K : PySem.W.Frag} {mg : Str → Option Value} {B : Heap} {x qual : Str} {st st0 : Stmt} {rest : List Stmt} {f : Addr} {fd : FuncData} {N ps : List Str} {k : Nat} {sp : SpX} (F : Fun K x qual st f fd) (S : GScope N ps (defScope st)) (cnt : ∀ vs H E, sp vs H E → vs.length = ps.length) (hb : defBody st = st0 :: rest)
    (body : ∀ (cdv : Value) (A : Around) (ou : List Env) (t : Shared) (H : Hp) (vs : List V) (E : XK) (pn : List (Addr × Obj)), A.guards = some [] → Room k (A.deeper (envOfC qual (defScope st) t.heap.objs.size f cdv)) → sp vs H E →
      ∃ r, PS (gcxN P w K mg B N qual (defScope st) f cdv A ou t H E pn) st0 r ∧ r ⟨fun _ _ => False, fun _ _ => False, fun _ _ => False, fun _ _ => False⟩ (L2.start N vs) H) : GFnX P w K mg B (k + 1) f fd ps sp := by
  refine ⟨cnt, fun A ou t H ar us vs E hr e0 bi r hsp => ?_⟩
  obtain ⟨oc, od, kV, doc, pm, an, cdv, ct, osl, rfl, lk, hcd⟩ := F.ex
  have hl := cnt _ _ _ hsp
  have kin : K.In t.heap := e0.mod.kin.keeps fun b o e => (e0.bs b o e).1
  have lim := e0.mod.nolimit.keeps fun b o e => (e0.bs b o e).1
  have kinds : ∀ y ∈ ps.zip us, (defScope st).names.lookup y.1 = some .local ∨ ((defScope st).names.lookup y.1 = some .cell ∧ ((cellsFrom (t.heap.objs.size + 1) (defScope st).names []).lookup y.1).isSome = true) := fun y hy =>
    (S.par y.1 (List.of_mem_zip (a := y.1) (b := y.2) hy).1).imp id fun e => ⟨e, PySem.W.cellsFrom_some _ _ _ (.inl e)⟩
  refine codeAny_call_generator hr.depth (kin _ _ lk) rfl S.co S.gen rfl (PySem.W.codeRec_of kin hcd) (bi _ _ _ _ (wpAny_newFunctionEnv_cells S.kind kinds fun env he t1 x => ?_))
  subst he
  have lim1 := lim.keeps x.toInCall.keep
  refine ⟨lim1, ?_⟩
  obtain ⟨h1, tk, es1, hk1⟩ := x.done
  have lt1 : t.heap.objs.size < t1.heap.objs.size := x.toInCall.ns.lt
  have main : ∀ (go : Obj) (nm qn : Value) (tk2 : Nat), go.cls = .type "generator" → go.data = .fields #[.int t1.gens.size 0, nm, qn] → go.slots = #[] → (∀ h : Heap, (h.push go).get? h.objs.size = some go) →
      GMadeX P w (k + 1) ou H t E (.ref t1.heap.objs.size) { t1 with gens := t1.gens.push (.fresh (.func (defBody st) (envOfC qual (defScope st) t.heap.objs.size f cdv))), toks := tk2, heap := t1.heap.push go } := by
    intro go nm qn tk2 gc gd gs gp
    have isG : ∀ h : Heap, h.get? t1.heap.objs.size = some go → h.IsGen t1.heap.objs.size t1.gens.size := fun h e => ⟨go, nm, qn, e, gc, gd, gs⟩
    refine ⟨t1.heap.objs.size, t1.gens.size, _, rfl, Nat.le_of_lt lt1, by show _ < (t1.heap.push go).objs.size; rw [Heap.size_push]; omega, isG _ (gp _), Array.getElem?_push_size .., by rw [es1], AllBare.push (by rw [es1]; exact e0.bare) rfl, lim1.keeps fun b o e => Heap.get?_push_of_some _ e, fun b o e => Heap.get?_push_of_some _ (x.toInCall.keep b o e), fun A2 t2 hG2 hr2 hf2 hk2 ho2 hb2 => ?_⟩
    obtain ⟨tr, hps, hq⟩ := body cdv A2 ou t H vs E [(t1.heap.objs.size, go)] hG2 (hr2.deeper _) hsp
    have e2 : Env0 P w K mg B A2 ou t H := ⟨hf2, e0.mod, e0.bs, e0.bsz, e0.funs, e0.frf, e0.hok, e0.bare⟩
    have J1 := inv_startG (E := E) S hr2.hd e2 hl r x
    have J2 := J1.call' (ch := []) (s' := t2) (by rw [ho2, es1]) (Un.kept fun b o e => hk2 b o (Heap.get?_push_of_some _ e)) (J1.hok.kept fun b o e => hk2 b o (Heap.get?_push_of_some _ e)) hb2 fun b z => by simp at z
    have young : H t1.heap.objs.size = none ∧ t1.heap.objs.size ≠ t.heap.objs.size ∧ t1.heap.objs.size ∉ frs ou := ⟨J1.hok.fresh (Nat.le_refl _), Nat.ne_of_gt lt1, J1.nofs (Nat.le_refl _)⟩
    have J3 : Inv (gcxN P w K mg B N qual (defScope st) f cdv A2 ou t H E [(t1.heap.objs.size, go)]) [] (L2.start N vs) H t2 := by
      refine ⟨⟨J2.ok.mod, J2.ok.kind, J2.ok.glob, J2.ok.blt, J2.ok.above, J2.ok.inj, J2.ok.has, J2.ok.cab, J2.ok.hd, J2.ok.frames, J2.ok.stk, J2.ok.exf, J2.ok.bs, J2.ok.bsz, J2.ok.noex, J2.ok.exfs, J2.ok.funs, J2.ok.frf⟩, J2.os, J2.bare, J2.base, J2.loc, J2.cell, J2.free, J2.freeC, fun q hq => ?_, J2.hok, J2.len⟩
      rw [List.mem_singleton.mp (show q ∈ [(t1.heap.objs.size, go)] from hq)]
      exact ⟨hk2 _ _ (gp _), young.1, young.2.1, young.2.2, fun v z => by rw [gd] at z; cases z⟩
    refine seg_func ?_
    rw [hb]
    refine seg_execs_cons (seg_wrap ?_)
    rw [over_func]
    refine wpAny_mono (hps.run [] t2 (L2.start N vs) H _ J3 hq) (fun fl t3 z => ?_) (fun e t3 z => ?_)
    · cases fl with
      | next => obtain ⟨_, _, _, z⟩ := z; exact z.elim
      | brk => obtain ⟨_, _, _, z⟩ := z; exact z.elim
      | cont => obtain ⟨_, _, _, z⟩ := z; exact z.elim
      | ret u => obtain ⟨_, _, _, _, _, z⟩ := z; exact z.elim
    · refine seg_wrap ?_
      rw [over_func]
      refine wpAny_mono (show wpAny (model P w) (A2.deeper (envOfC qual (defScope st) t.heap.objs.size f cdv)) (leaving (envOfC qual (defScope st) t.heap.objs.size f cdv) e) (fun _ t4 => L2N.CX P w ou H t E e t4 ∧ ∀ q ∈ [(t1.heap.objs.size, go)], t4.heap.get? q.1 = some q.2) (fun _ _ => False) t3 from z) (fun _ t4 y => ?_) fun _ _ y => y.elim
      exact seg_end (.error e) ⟨e, rfl, y.1, isG _ (y.2 _ (List.mem_singleton.mpr rfl))⟩
  exact main _ _ _ _ rfl rfl rfl fun h => Heap.get?_push_size _ rfl
/-! ### woken: it raises; list(g) of it -/
theorem notStopN {P : Program} {w : World} {K : PySem.W.Frag} {ou : List Env} {H : Hp} {t t1 : Shared} {E : XK} {e : Value} (hE : NoStop K E) (kin : K.In t1.heap) (c : L2N.CX P w ou H t E e t1) : NotStop (model P w) e t1.heap := by
  obtain ⟨a, B, H1, cl, d, rfl, fl, _, _, _, _, _, hw⟩ := c
  obtain ⟨oe, vs, he, hz, _⟩ := fl.there
  intro A Q X t2 e2 hq
  simp only [isInstance]
  refine wpAny_bind (wpAny_typeOf_ref (o := oe) (e2 ▸ he) ?_)
  rw [hz.1]
  exact PySem.W.looks_subIn (M := model P w) kin (hE cl d H1 hw) A Q X t2 (fun b o z => e2 ▸ z) hq
section
variable {P : Program} {w : World} {k : Nat} {ou : List Env} {H : Hp} {t t1 t2 : Shared} {E : XK} {a : Addr} {n : Nat} {c : Code} {A : Around} {Ex : Value → Shared → Prop}
/-- next(g) -/
theorem MadeX.next {Q : Option Value → Shared → Prop} (h : MadeX P w k ou H t E a n c t1) (hr : Room (k + 1) A) (hG : A.guards = some []) (hf : A.frames = some ou) (kp : ∀ b o, t1.heap.get? b = some o → t2.heap.get? b = some o) (os : t2.os = t1.os) (gs : t2.gens = t1.gens)
    (hE : ∀ e t3, L2N.CX P w ou H t E e t3 → NotStop (model P w) e t3.heap ∧ Ex e (t3.setGen n .finished)) : wpAny (model P w) A (pyNext (.ref a)) Q Ex t2 := by
  have hl : t2.heap.NoLimit := h.lim.keeps kp
  have hn : t2.gens[n]? = some (.fresh c) := by rw [gs]; exact h.fresh
  refine next_genG (n := sizeLine) (F := fun _ _ _ => False) (Er := fun e t3 => L2N.CX P w ou H t E e t3 ∧ t3.heap.IsGen a n) (Y := YNo) hr.hd hl hr.depth (h.gen.keeps kp) hn ?_ (fun v t3 gs' _ z => z.elim) (fun t3 z => z.elim) (fun e t3 z => ?_)
  · have := h.wake A.in1 (t2.setGen n .running) hG hr.in1 hf kp (os.trans h.os) (allBare_setGen (by rw [gs]; exact h.bare) rfl)
    exact ⟨rfl, seg_imp (R' := fun _ _ r t3 => ((r = .ok (.ret .none) ∨ r = .ok .next) ∧ False) ∨ ∃ e, r = .error e ∧ L2N.CX P w ou H t E e t3 ∧ t3.heap.IsGen a n) (fun _ _ r t3 z => .inr z) (fun _ _ _ _ _ _ _ z => z.elim) sizeLine this⟩
  · obtain ⟨y1, y2⟩ := hE e t3 z.1
    exact ⟨z.2, y1, y2⟩
/-- list(g) -/
theorem MadeX.list {Q : Value → Shared → Prop} (h : MadeX P w k ou H t E a n c t1) (hr : Room (k + 3) A) (hG : A.guards = some []) (hf : A.frames = some ou)
    (hE : ∀ e t3, L2N.CX P w ou H t E e t3 → NotStop (model P w) e t3.heap ∧ Ex e (t3.setGen n .finished)) : wpAny (model P w) A (PySem.call (.type "list") [.ref a]) Q Ex t1 := by
  obtain ⟨S, eS⟩ : ∃ S, S = t1.heap.objs.size := ⟨_, rfl⟩
  obtain ⟨lo, elo⟩ : ∃ lo : Obj, lo = { cls := .type "list", data := .seq #[] } := ⟨_, rfl⟩
  have SA : S ≠ a := by rw [eS]; exact Nat.ne_of_gt h.high
  refine callType_codes (Q₁ := fun x t2 => x = .ref S ∧ t2 = { t1 with heap := t1.heap.push lo }) PySem.F.called_list (PySem.F.typeCall_list_1 _) PySem.F.entry_list_init (code_list_new _ (by rw [eS, elo]; exact ⟨rfl, rfl⟩)) fun x t2 hx => ?_
  obtain ⟨rfl, rfl⟩ := hx
  have g0 : (t1.heap.push lo).get? S = some lo := by rw [eS]; exact Heap.get?_push_size _ (by rw [elo]; rfl)
  refine ⟨⟨lo, g0, by rw [elo]⟩, PySem.F.args_list_init_2 _ _, ?_⟩
  have k0 : ∀ b o, t1.heap.get? b = some o → (t1.heap.push lo).get? b = some o := fun b o e => Heap.get?_push_of_some _ e
  have step : ∀ (hp : Heap) (f : Obj → Obj), (∀ b o, t1.heap.get? b = some o → hp.get? b = some o) → ∀ b o, t1.heap.get? b = some o → (hp.update S f).get? b = some o := fun hp f q b o e =>
    (Heap.get?_update_other _ _ (by rw [eS]; exact Nat.ne_of_gt (Heap.lt_size e))).trans (q b o e)
  have isG : ∀ {t2 : Shared}, (∀ b o, t1.heap.get? b = some o → t2.heap.get? b = some o) → t2.heap.IsGen a n := fun q => h.gen.keeps q
  show wpAny _ _ (Builtin.List.listItems (.ref S) >>= fun old => Builtin.List.listUpdate (.ref S) (fun _ => #[]) >>= fun _ => letGo old.toList.reverse >>= fun _ => Builtin.List.listExtendWith (.ref S) (.ref a) .none) _ _ _
  have d0 : lo.data = .seq #[] := by rw [elo]
  unfold Builtin.List.listItems
  refine wpAny_bind (wpAny_bind (wpAny_seqItems g0 d0 (wpAny_pure (wpAny_bind ?_))))
  show wpAny _ _ (updateSeq S fun _ => #[]) _ _ _
  refine wpAny_updateSeq g0 d0 (wpAny_bind (wpAny_letGo ?_))
  have g1 := Heap.get?_update_self (Obj.mapSeq fun _ => (#[] : Array Value)) g0 (by rw [elo]; rfl)
  have k1 := step _ (Obj.mapSeq fun _ => (#[] : Array Value)) k0
  have d1 : (lo.mapSeq fun _ => (#[] : Array Value)).data = .seq #[] := by rw [elo]; rfl
  unfold Builtin.List.listExtendWith
  refine wpAny_bind (wpAny_typeOf (Heap.IsGen.typeIs (s := { t1 with heap := _ }) (isG k1)) ?_)
  rw [if_neg (by show ¬ ((Builtin.List.listSameRef (.ref S) (.ref a) || Value.type "generator" == Value.type "list") || Value.type "generator" == Value.type "tuple") = true; simp [Builtin.List.listSameRef, SA])]
  refine wpAny_bind (wpAny_pyIter_gen (s := { t1 with heap := _ }) (isG k1) (wpAny_bind (wpAny_holding ?_)))
  unfold Builtin.List.listLengthHint
  refine wpAny_bind (wpAny_specialOf (Heap.IsGen.typeIs (s := { t1 with heap := _ }) (isG k1)) PySem.F.gen_no_len ?_)
  refine wpAny_bind (m := specialOf (.ref a) (Str.ofString "__length_hint__")) (wpAny_specialOf (Heap.IsGen.typeIs (s := { t1 with heap := _ }) (isG k1)) PySem.F.gen_no_hint (wpAny_pure (wpAny_bind (m := rule "list.extend.makes-room") (wpAny_rule (wpAny_bind (m := Builtin.List.listTouch (.ref S)) ?_)))))
  have u2 := Heap.get?_update_self (Obj.mapSeq (·.push Value.none)) g1 (by rw [elo]; rfl)
  show wpAny _ _ (updateSeq S (·.push .none) >>= fun _ => updateSeq S (·.pop)) _ _ _
  refine wpAny_bind (wpAny_updateSeq g1 d1 (wpAny_updateSeq (hz := by seq_fits) u2 (by rw [elo]; rfl) (wpAny_pure ⟨plainId_quiet PySem.F.plain_extend_loop _, ?_⟩)))
  have k2 := step _ (Obj.mapSeq (·.pop)) (step _ (Obj.mapSeq (·.push Value.none)) k1)
  refine codeAny_builtin PySem.F.entry_extend_loop ?_
  rw [Around.under_plainId PySem.F.plain_extend_loop _]
  show wpAny _ A.in1.in1 (pyNext (.ref a) >>= _) _ _ _
  exact wpAny_bind (h.next hr.in1.in1 hG hf k2 rfl rfl hE)
end
section
variable {X : Cx} {W : WX} {k : Nat} {f : Addr} {fd : FuncData} {ps : List Str} {sp : SpX} {x nm : Str} {p p2 pos pos' : Pos} {e : Expr} {es : List Expr} {t : TA}
/-- what is raised is no StopIteration -/
def NoSt (K : PySem.W.Frag) (cls : Value) : Prop := PySem.W.subIn K cls (.type "StopIteration") = some false
theorem stays_in {pins : List (Addr × Obj)} {σ : L2.St} {H : Hp} {s s1 : Shared} {E : XK} {u : Value} (I : Inv X pins σ H s) (c : L2N.CX X.prog X.w X.stack H s E u s1) : X.K.In s1.heap := by
  obtain ⟨a, B, H1, cl, d, _, fl, _, ub, _⟩ := c
  refine I.ok.mod.kin.keeps fun b o eb => fl.1 b o (ub.keep b o (I.bs b o eb).1 (I.bs b o eb).2 fun hm => ?_)
  rcases List.mem_cons.mp (I.stkSub b hm) with z | z
  · exact Nat.lt_irrefl _ (Nat.lt_of_lt_of_le (z ▸ Heap.lt_size eb) (Nat.le_trans I.ok.bsz I.ok.above))
  · exact I.ok.nofr eb z
theorem cx_fin {P : Program} {w : World} {ou : List Env} {H : Hp} {t t1 : Shared} {E : XK} {u : Value} {n : Nat} (c : L2N.CX P w ou H t E u t1) : L2N.CX P w ou H t E u (t1.setGen n .finished) := by
  obtain ⟨a, B, H1, cl, d, z1, z2, z3, z4, z5, z6, z7, z8⟩ := c
  exact ⟨a, B, H1, cl, d, z1, z2, z3, z4, z5, z6, allBare_setGen z7 rfl, z8⟩
def tListX (K : PySem.W.Frag) (sp : SpX) (W : WX) (t : TA) : TE := fun σ H _ => t σ H fun vs H1 => sp vs H1 fun cls d H' => NoSt K cls ∧ W cls d σ H'
/-- list(g(e, ..)), which raises -/
theorem pe_listX (F : GFnX X.prog X.w X.K X.mg X.base k f fd ps sp) (hG : X.A.guards = some []) (hr : Room (k + 3) X.A) (hg : Gl X x) (hm : X.mg x = some (.ref f)) (hk : PySem.W.keepIn X.K (.ref f) = true) (hb : Binds X.K fd ps []) (tk : L2N.Takes X W)
    (ha : PA X (e :: es) t) (hl : Gl X nm) (hn : X.mg nm = none) (hv : bootBuiltins nm = some (.type "list")) (hnm : nm ≠ "__name__" := by decide) (hd1 : (x == ("__debug__" : Str)) = false := by decide) (hd2 : (nm == ("__debug__" : Str)) = false := by decide)
    (he : starEach (e :: es) X.env = (false, eval e X.env) :: starEach es X.env := by rfl) (hpl : (backTo pos' (starEach es X.env)).any (·.1) = false := by rfl)
    (he2 : starEach [.Call (.Name x p) (e :: es) [] pos'] X.env = (false, eval (.Call (.Name x p) (e :: es) [] pos') X.env) :: starEach [] X.env := by rfl) :
    PE X (.Call (.Name nm p2) [.Call (.Name x p) (e :: es) [] pos'] [] pos) (tListX X.K sp W t) := by
  refine ⟨fun pins s σ H Q I z => wpAny_Call_Name_kw (ld_blt I hl hn hv (PyProof.Rows.callWith_type1 ?_ he2 rfl) hnm hd2)⟩
  rw [he2]
  show wpAny _ _ (spliced ((false, eval (.Call (.Name x p) (e :: es) [] pos') X.env) :: backTo pos (starEach [] X.env))) _ _ s
  refine Calls.spliced_cons ?_
  refine thn (Q := fun u s1 => ∃ H1 sc, Inv X pins σ H1 sc ∧ ∃ E : XK, (∀ c d H', E c d H' → NoSt X.K c ∧ W c d σ H') ∧ GMadeX X.prog X.w k X.stack H1 sc E u s1) (wpAny_Call_Name_kw (ld_glob I hg hm ?_ hd1)) fun u s1 ⟨H1, sc, J, E, hE, a, n, c, eu, M⟩ => Calls.spliced_nil ?_
  · refine PySem.W.callWith_K (h₀ := X.base) I.ok.mod.kin hk (thn (ha.run pos' pins s σ H _ I z) fun us s1 ⟨vs, H1, J, r, q⟩ => ⟨J.kIn, ?_⟩) he hpl
    have hlen : us.length = ps.length := r.length ▸ F.cnt _ _ _ q
    have bd := hb s1 us J.kIn (by rw [List.append_nil]; exact hlen)
    rw [List.append_nil] at bd
    refine wpAny_call (codeAny_mono (F.go X.A X.stack s1 H1 ⟨us, []⟩ us vs _ (hr.mono (by omega)) J.env0 bd r q) fun r s2 y => ?_)
    match r, y with
    | .ok (.ret u), y => exact ⟨H1, s1, J, _, fun c d H' h => h, y⟩
    | .error _, y => exact y.elim
    | .ok .next, y => exact y.elim
    | .ok .brk, y => exact y.elim
    | .ok .cont, y => exact y.elim
  · subst eu
    refine M.list hr hG J.ok.frames fun e2 s2 y => ?_
    refine ⟨notStopN (fun c d H' h => (hE c d H' h).1) (stays_in J y) y, tk _ _ (L2N.XE.of_call J (fun c d H' h => (hE c d H' h).2) (cx_fin y))⟩
end
/-- by either of two ways -/
def tEither (t u : TE) : TE := fun σ H Q => t σ H Q ∨ u σ H Q
theorem pe_either {X : Cx} {e : Expr} {t u : TE} (a : PE X e t) (b : PE X e u) : PE X e (tEither t u) := ⟨fun pins s σ H Q I z => z.elim (a.run pins s σ H Q I) (b.run pins s σ H Q I)⟩
section
variable {K : PySem.W.Frag} {σ : L2.St} {H : Hp} {Q : VK} {sp : SpX} {W : WX} {t : TA}
theorem r_listX (h : t σ H fun vs H1 => sp vs H1 fun cls d H' => NoSt K cls ∧ W cls d σ H') : tListX K sp W t σ H Q := h
end
end Xk
local macro_rules | `(tactic| fail "ww1") => `(tactic| with_reducible refine Xk.r_listX ?_)

set_option Elab.async false
set_option linter.all false
set_option maxRecDepth 100000
set_option maxHeartbeats 20000000
namespace Xk
open PySem PySem.Spec PyProof.Rows L2 GenW
open Sem (wp)
/-! ### what sleeps stays asleep: a run that would not wake it leaves it as it is -/
/-- the same to look at, but it cannot be woken -/
def psn : GenState → GenState
  | .suspended _ l c p fs cl => .suspended (fun _ => .unsupported "") l c p fs cl
  | x => x
def PlainG (x : GenState) : Prop := ∀ k l c p fs cl, x = .suspended k l c p fs cl → splitAtGen fs = none
def PlainE : End → Prop
  | .susp _ _ _ _ _ _ fs => splitAtGen fs = none
  | .ret _ => True
theorem sag_cons {F : Frame} {fs : List Frame} (h : splitAtGen (F :: fs) = none) : splitAtGen fs = none := by
  cases F with
  | ret => simpa [splitAtGen] using h
  | gen => simp [splitAtGen] at h
theorem sag_app : ∀ {a b : List Frame}, splitAtGen a = none → splitAtGen b = none → splitAtGen (a ++ b) = none
  | [], _, _, hb => hb
  | F :: a, b, ha, hb => by
    have := sag_app (sag_cons ha) hb
    cases F with
    | ret => simpa [splitAtGen] using this
    | gen => simp [splitAtGen] at ha
theorem plainG_of {e : End} (h : PlainE e) : PlainG e.genState := by
  intro k l c p fs cl q
  cases e with
  | ret => simp [End.genState] at q
  | susp v g l k c p fs => simp [End.genState] at q; obtain ⟨_, _, _, _, q, _⟩ := q; rw [← q]; exact h
section
variable {G0 : Nat → Option GenState}
/-- awake again -/
def un (G0 : Nat → Option GenState) (t : Shared) : Shared := { t with gens := t.gens.mapIdx fun i g => (G0 i).getD g }
structure Pz (G0 : Nat → Option GenState) (t : Shared) : Prop where
  inn : ∀ i gs, G0 i = some gs → t.gens[i]? = some (psn gs) ∧ ∃ k l c p fs cl, gs = .suspended k l c p fs cl
  out : ∀ i gs, G0 i = none → t.gens[i]? = some gs → PlainG gs
theorem un_size (t : Shared) : (un G0 t).gens.size = t.gens.size := by simp [un]
theorem un_out {t : Shared} {i : Nat} (h : G0 i = none) : (un G0 t).gens[i]? = t.gens[i]? := by
  simp [un, h]
theorem un_inn {t : Shared} {i : Nat} {gs : GenState} (z : Pz G0 t) (h : G0 i = some gs) : (un G0 t).gens[i]? = some gs := by
  simp [un, h, (z.inn i gs h).1]
theorem un_set {t : Shared} {g : Nat} {x : GenState} (h : G0 g = none) : un G0 (t.setGen g x) = (un G0 t).setGen g x := by
  unfold un Shared.setGen
  congr 1
  apply Array.ext
  · simp
  · intro i h1 h2
    have e1 : ∀ (l : Array GenState) (hl : i < l.size), l[i]? = some l[i] := fun l hl => Array.getElem?_eq_getElem hl
    refine Option.some.inj ?_
    rw [← e1, ← e1]
    by_cases e : g = i
    · subst e
      simp only [Array.getElem?_mapIdx, Array.getElem?_setIfInBounds, Array.size_mapIdx, if_true]
      split <;> simp [h]
    · simp only [Array.getElem?_mapIdx, Array.getElem?_setIfInBounds, if_neg e]
theorem un_push {t : Shared} {c : Code} (z : Pz G0 t) : un G0 { t with gens := t.gens.push (.fresh c) } = { un G0 t with gens := (un G0 t).gens.push (.fresh c) } := by
  unfold un
  congr 1
  have e : G0 t.gens.size = none := by
    cases h : G0 t.gens.size with
    | none => rfl
    | some gs => have := (z.inn _ _ h).1; simp at this
  simp [Array.mapIdx_push, e]
theorem Pz.set {t : Shared} {g : Nat} {x : GenState} (z : Pz G0 t) (h : G0 g = none) (hx : PlainG x) : Pz G0 (t.setGen g x) := by
  have ne : ∀ i, i ≠ g → (t.setGen g x).gens[i]? = t.gens[i]? := fun i hi => by
    show (t.gens.setIfInBounds g x)[i]? = _
    rw [Array.getElem?_setIfInBounds_ne (Ne.symm hi)]
  refine ⟨fun i gs q => ?_, fun i gs q e => ?_⟩
  · rw [ne i (fun e => by rw [e, h] at q; cases q)]; exact z.inn i gs q
  · by_cases hi : i = g
    · subst hi
      have : gs = x := by
        have hl : i < t.gens.size := by
          have := (Array.getElem?_eq_some_iff.mp e).1
          rw [setGen_size] at this; exact this
        rw [setGen_at hl] at e; cases e; rfl
      rw [this]; exact hx
    · rw [ne i hi] at e; exact z.out i gs q e
theorem Pz.push {t : Shared} {c : Code} (z : Pz G0 t) : Pz G0 { t with gens := t.gens.push (.fresh c) } := by
  refine ⟨fun i gs q => ?_, fun i gs q e => ?_⟩
  · obtain ⟨h1, h2⟩ := z.inn i gs q
    refine ⟨?_, h2⟩
    have hl := (Array.getElem?_eq_some_iff.mp h1).1
    show (t.gens.push (.fresh c))[i]? = _
    rw [Array.getElem?_push_lt hl, ← h1, Array.getElem?_eq_getElem hl]
  · have e' : (t.gens.push (.fresh c))[i]? = some gs := e
    by_cases hi : i = t.gens.size
    · rw [hi, Array.getElem?_push_size] at e'
      cases e'
      intro k l c p fs cl y; cases y
    · rw [Array.getElem?_push, if_neg hi] at e'
      exact z.out i gs q e'
theorem Pz.same {t t' : Shared} (z : Pz G0 t) (e : t'.gens = t.gens) : Pz G0 t' := ⟨fun i gs q => by rw [e]; exact z.inn i gs q, fun i gs q y => z.out i gs q (by rw [← e]; exact y)⟩
theorem plain_run : PlainG .running := fun _ _ _ _ _ _ y => by cases y
theorem plain_fin : PlainG .finished := fun _ _ _ _ _ _ y => by cases y
theorem no_unsup {M : Model} {Γ : PySem.Ctx} {p : Pos} {w : String} {fs : List Frame} {s s' : Shared} {e : End} (h : Runs M Γ p (.unsupported w) fs s e s') : False := by
  cases h with
  | segRet a _ => cases a
  | segGen a _ => cases a
  | segSuspOut _ a => cases a
  | segSuspGen _ a => cases a
theorem pz_seen {t : Shared} {g : Nat} {st : GenState} (z : Pz G0 t) (h : t.gens[g]? = some st) : ∃ st', (un G0 t).gens[g]? = some st' ∧ st'.seen = st.seen := by
  cases q : G0 g with
  | none => exact ⟨st, (un_out q).trans h, rfl⟩
  | some gs =>
    obtain ⟨h1, k, l, c, p, fs, cl, rfl⟩ := z.inn g gs q
    rw [h1] at h; cases h
    exact ⟨_, un_inn z q, rfl⟩
theorem pz_none {t : Shared} {g : Nat} {st : GenState} (z : Pz G0 t) (h : t.gens[g]? = some st) (hn : ∀ k l c p fs cl, st ≠ .suspended k l c p fs cl) : G0 g = none := by
  cases q : G0 g with
  | none => rfl
  | some gs =>
    obtain ⟨h1, k, l, c, p, fs, cl, rfl⟩ := z.inn g gs q
    rw [h1] at h; cases h
    exact absurd rfl (hn _ _ _ _ _ _)
theorem runs_pz {M : Model} {Γ : PySem.Ctx} {p : Pos} {tr : Sem PySem.Fin} {fs : List Frame} {t t' : Shared} {e : End} (h : Runs M Γ p tr fs t e t') :
    splitAtGen fs = none → Pz G0 t → Runs M Γ p tr fs (un G0 t) e (un G0 t') ∧ Pz G0 t' ∧ PlainE e := by
  induction h with
  | done => exact fun _ z => ⟨.done, z, trivial⟩
  | raise => exact fun _ z => ⟨.raise, z, trivial⟩
  | again hq _ ih => intro hf z; obtain ⟨a, b, c⟩ := ih rfl z; exact ⟨.again hq a, b, c⟩
  | rule _ ih => intro hf z; obtain ⟨a, b, c⟩ := ih rfl z; exact ⟨.rule a, b, c⟩
  | «at» _ ih => intro hf z; obtain ⟨a, b, c⟩ := ih rfl z; exact ⟨.at a, b, c⟩
  | load ho _ ih => intro hf z; obtain ⟨a, b, c⟩ := ih rfl z; exact ⟨.load ho a, b, c⟩
  | update ho _ ih => intro hf z; obtain ⟨a, b, c⟩ := ih rfl (z.same rfl); exact ⟨.update ho a, b, c⟩
  | loadIfAlive _ ih => intro hf z; obtain ⟨a, b, c⟩ := ih rfl z; exact ⟨.loadIfAlive a, b, c⟩
  | point _ ih => intro hf z; obtain ⟨a, b, c⟩ := ih rfl z; exact ⟨.point a, b, c⟩
  | alloc _ ih => intro hf z; obtain ⟨a, b, c⟩ := ih rfl (z.same rfl); exact ⟨.alloc a, b, c⟩
  | fresh _ ih => intro hf z; obtain ⟨a, b, c⟩ := ih rfl (z.same rfl); exact ⟨.fresh a, b, c⟩
  | ask _ ih => intro hf z; obtain ⟨a, b, c⟩ := ih rfl z; exact ⟨.ask a, b, c⟩
  | choose hn _ ih => intro hf z; obtain ⟨a, b, c⟩ := ih rfl (z.same rfl); exact ⟨.choose hn a, b, c⟩
  | os _ ih => intro hf z; obtain ⟨a, b, c⟩ := ih rfl (z.same rfl); exact ⟨.os a, b, c⟩
  | handled _ ih => intro hf z; obtain ⟨a, b, c⟩ := ih rfl z; exact ⟨.handled a, b, c⟩
  | genState hg _ ih =>
    intro hf z
    obtain ⟨a, b, c⟩ := ih rfl z
    obtain ⟨st', h1, h2⟩ := pz_seen z hg
    exact ⟨.genState h1 (by rw [h2]; exact a), b, c⟩
  | stack _ ih => intro hf z; obtain ⟨a, b, c⟩ := ih rfl z; exact ⟨.stack a, b, c⟩
  | thread _ ih => intro hf z; obtain ⟨a, b, c⟩ := ih rfl z; exact ⟨.thread a, b, c⟩
  | newGen _ ih =>
    intro hf z
    obtain ⟨a, b, c⟩ := ih rfl z.push
    refine ⟨.newGen ?_, b, c⟩
    rw [un_push z] at a
    rw [un_size]
    exact a
  | call _ _ ih1 ih2 =>
    intro hf z
    obtain ⟨a1, b1, _⟩ := ih1 rfl z
    obtain ⟨a2, b2, c2⟩ := ih2 rfl b1
    exact ⟨.call a1 a2, b2, c2⟩
  | callSusp _ ih =>
    intro hf z
    obtain ⟨a1, b1, c1⟩ := ih rfl z
    exact ⟨.callSusp a1, b1, sag_app c1 rfl⟩
  | yield => exact fun _ z => ⟨.yield, z, rfl⟩
  | resumeFresh hg _ hq _ ih1 ih2 =>
    intro hf z
    have q := pz_none z hg (fun _ _ _ _ _ _ y => by cases y)
    obtain ⟨a1, b1, c1⟩ := ih1 rfl (z.set q plain_run)
    obtain ⟨a2, b2, c2⟩ := ih2 rfl (b1.set q (plainG_of c1))
    rw [un_set q] at a1
    rw [un_set q] at a2
    exact ⟨.resumeFresh ((un_out q).trans hg) a1 hq a2, b2, c2⟩
  | @resumeSuspended Γ p g r l k s k₀ l₀ c₀ p₀ fs cl e₁ s₁ e s' hg hr hq _ ih1 ih2 =>
    intro hf z
    cases q : G0 g with
    | some gs =>
      exfalso
      obtain ⟨h1, k, l, c, p, fs, cl, rfl⟩ := z.inn g gs q
      rw [h1] at hg
      cases hg
      exact no_unsup hr
    | none =>
      have pl := z.out g _ q hg k₀ l₀ c₀ p₀ fs cl rfl
      obtain ⟨a1, b1, c1⟩ := ih1 pl (z.set q plain_run)
      obtain ⟨a2, b2, c2⟩ := ih2 rfl (b1.set q (plainG_of c1))
      rw [un_set q] at a1
      rw [un_set q] at a2
      exact ⟨.resumeSuspended ((un_out q).trans hg) a1 hq a2, b2, c2⟩
  | resumeJustStarted hg hv _ ih =>
    intro hf z
    have q := pz_none z hg (fun _ _ _ _ _ _ y => by cases y)
    obtain ⟨a, b, c⟩ := ih rfl z
    exact ⟨.resumeJustStarted ((un_out q).trans hg) hv a, b, c⟩
  | resumeThrowFresh hg _ ih =>
    intro hf z
    have q := pz_none z hg (fun _ _ _ _ _ _ y => by cases y)
    obtain ⟨a, b, c⟩ := ih rfl (z.set q plain_fin)
    rw [un_set q] at a
    exact ⟨.resumeThrowFresh ((un_out q).trans hg) a, b, c⟩
  | resumeRunning hg _ ih =>
    intro hf z
    have q := pz_none z hg (fun _ _ _ _ _ _ y => by cases y)
    obtain ⟨a, b, c⟩ := ih rfl z
    exact ⟨.resumeRunning ((un_out q).trans hg) a, b, c⟩
  | resumeFinished hg _ ih =>
    intro hf z
    have q := pz_none z hg (fun _ _ _ _ _ _ y => by cases y)
    obtain ⟨a, b, c⟩ := ih rfl z
    exact ⟨.resumeFinished ((un_out q).trans hg) a, b, c⟩
  | segRet _ _ ih1 ih2 =>
    intro hf z
    obtain ⟨a1, b1, _⟩ := ih1 rfl z
    obtain ⟨a2, b2, c2⟩ := ih2 (sag_cons hf) b1
    exact ⟨.segRet a1 a2, b2, c2⟩
  | segGen _ _ _ _ => intro hf; simp [splitAtGen] at hf
  | segSuspOut hs _ ih =>
    intro hf z
    obtain ⟨a, b, c⟩ := ih rfl z
    exact ⟨.segSuspOut hs a, b, sag_app c hf⟩
  | segSuspGen hs _ _ _ _ _ => intro hf; rw [hs] at hf; cases hf
theorem wakes_pz {M : Model} {Γ : PySem.Ctx} {p : Pos} {g : Nat} {r : Resume} {t t' : Shared} {res : GenResult} (h : Wakes M Γ p g r t res t') (z : Pz G0 t) : Wakes M Γ p g r (un G0 t) res (un G0 t') ∧ Pz G0 t' := by
  unfold Wakes at h
  split at h
  · exact h.elim
  · next c hg =>
    have q := pz_none z hg (fun _ _ _ _ _ _ y => by cases y)
    split at h
    · obtain ⟨e₁, s₁, hr, hq, rfl, rfl⟩ := h
      obtain ⟨a1, b1, c1⟩ := runs_pz (G0 := G0) hr rfl (z.set q plain_run)
      refine ⟨?_, b1.set q (plainG_of c1)⟩
      unfold Wakes
      rw [(un_out q).trans hg]
      rw [un_set q] at a1
      exact ⟨e₁, _, a1, hq, rfl, un_set q⟩
    · obtain ⟨rfl, rfl⟩ := h
      refine ⟨?_, z⟩
      unfold Wakes
      rw [(un_out q).trans hg]
      next hv => split <;> first | exact ⟨rfl, rfl⟩ | (exact absurd rfl (by first | assumption | (intro y; simp_all))) | simp_all
    · obtain ⟨rfl, rfl⟩ := h
      refine ⟨?_, z.set q plain_fin⟩
      unfold Wakes
      rw [(un_out q).trans hg]
      exact ⟨rfl, un_set q⟩
  · next k₀ l₀ c₀ p₀ fs cl hg =>
    obtain ⟨e₁, s₁, hr, hq, rfl, rfl⟩ := h
    cases q : G0 g with
    | some gs =>
      exfalso
      obtain ⟨h1, k, l, c, p, fs, cl, rfl⟩ := z.inn g gs q
      rw [h1] at hg
      cases hg
      exact no_unsup hr
    | none =>
      have pl := z.out g _ q hg k₀ l₀ c₀ p₀ fs cl rfl
      obtain ⟨a1, b1, c1⟩ := runs_pz hr pl (z.set q plain_run)
      refine ⟨?_, b1.set q (plainG_of c1)⟩
      unfold Wakes
      rw [(un_out q).trans hg]
      rw [un_set q] at a1
      exact ⟨e₁, _, a1, hq, rfl, un_set q⟩
  · next hg =>
    have q := pz_none z hg (fun _ _ _ _ _ _ y => by cases y)
    obtain ⟨rfl, rfl⟩ := h
    refine ⟨?_, z⟩
    unfold Wakes
    rw [(un_out q).trans hg]
    exact ⟨rfl, rfl⟩
  · next hg =>
    have q := pz_none z hg (fun _ _ _ _ _ _ y => by cases y)
    obtain ⟨rfl, rfl⟩ := h
    refine ⟨?_, z⟩
    unfold Wakes
    rw [(un_out q).trans hg]
    exact ⟨rfl, rfl⟩
/-- what a run gives where the sleepers cannot be woken, it gives where they can, and they sleep on -/
def Aw {α : Type} (G0 : Nat → Option GenState) (Q : α → Pos → Shared → Prop) : α → Pos → Shared → Prop := fun a p s' => ∃ t', s' = un G0 t' ∧ Pz G0 t' ∧ Q a p t'
theorem wp_pz {α : Type} (M : Model) (Γ : PySem.Ctx) (tr : Sem α) : ∀ (Q : α → Pos → Shared → Prop) (E : Value → Pos → Shared → Prop) (p : Pos) (t : Shared), Pz G0 t → wp M Γ tr Q E p t → wp M Γ tr (Aw G0 Q) (Aw G0 E) p (un G0 t) := by
  induction tr with
  | pure a => intro Q E p s z h; exact ⟨s, rfl, z, h⟩
  | raise e => intro Q E p s z h; exact ⟨s, rfl, z, h⟩
  | unsupported _ => intro Q E p s _ h; exact h
  | finish _ => intro Q E p s _ h; exact h
  | rule _ k ih => intro Q E p s z h; exact ih () Q E p s z h
  | «at» p' k ih => intro Q E p s z h; exact ih () Q E p' s z h
  | load a _ k ih => intro Q E p s z h; obtain ⟨o, ho, h⟩ := h; exact ⟨o, ho, ih o Q E p s z h⟩
  | update a _ f k ih => intro Q E p s z h; exact ⟨h.1, ih () Q E p _ (z.same (t' := { s with heap := s.heap.update a f }) rfl) h.2⟩
  | loadIfAlive a k ih => intro Q E p s z h; exact ih _ Q E p s z h
  | point _ k ih => intro Q E p s z h; exact ih () Q E p s z h
  | register _ _ => intro Q E p s _ h; exact h
  | alloc o k ih => intro Q E p s z h; exact ih _ Q E p _ (z.same (t' := { s with heap := s.heap.push o }) rfl) h
  | fresh k ih => intro Q E p s z h; exact ih _ Q E p _ (z.same (t' := { s with toks := s.toks + 1 }) rfl) h
  | ask k ih => intro Q E p s z h; exact ih _ Q E p s z h
  | choose src m k ih => intro Q E p s z h; exact ⟨h.1, ih _ Q E p _ (z.same (t' := { s with drawn := s.drawn.bump src }) rfl) h.2⟩
  | os q _ k ih => intro Q E p s z h; exact ih _ Q E p _ (z.same (t' := { s with os := (Os.step s.os q).1 }) rfl) h
  | call c hd _ _ k ih =>
    intro Q E p s z h
    obtain ⟨r, s', hr, h⟩ := h
    obtain ⟨a, b, _⟩ := runs_pz (G0 := G0) hr rfl z
    exact ⟨r, _, a, ih r Q E p s' b h⟩
  | handled own k ih => intro Q E p s z h; exact ih _ Q E p s z h
  | genState g k ih =>
    intro Q E p s z h
    obtain ⟨st, hs, h⟩ := h
    obtain ⟨st', h1, h2⟩ := pz_seen z hs
    exact ⟨st', h1, by rw [h2]; exact ih _ Q E p s z h⟩
  | newGen c k ih =>
    intro Q E p s z h
    have := ih _ Q E p _ z.push h
    rw [un_push z] at this
    show wp M Γ (k (un G0 s).gens.size) _ _ p { un G0 s with gens := (un G0 s).gens.push (.fresh c) }
    rw [un_size]
    exact this
  | resume g r _ k ih =>
    intro Q E p s z h
    obtain ⟨res, s', hw, h⟩ := h
    obtain ⟨a, b⟩ := wakes_pz (G0 := G0) hw z
    exact ⟨res, _, a, ih res Q E p s' b h⟩
  | yield _ _ _ _ => intro Q E p s _ h; exact h
  | stack k ih => intro Q E p s z h; exact ih _ Q E p s z h
  | fork _ _ => intro Q E p s _ h; exact h
  | thread k ih => intro Q E p s z h; exact ih _ Q E p s z h
  | await _ _ _ _ _ => intro Q E p s _ h; exact h
end
/-! ### in words of wpAny -/
section
open Classical
/-- all that sleep, but those of x, cannot be woken -/
noncomputable def lull (x : Nat → Prop) (s : Shared) : Shared := { s with gens := s.gens.mapIdx fun i g => if x i then g else psn g }
noncomputable def slp (x : Nat → Prop) (s : Shared) : Nat → Option GenState := fun i => if x i then none else match s.gens[i]? with
  | some (.suspended k l c p fs cl) => some (.suspended k l c p fs cl)
  | _ => none
theorem slp_some {x : Nat → Prop} {s : Shared} {i : Nat} {gs : GenState} (h : slp x s i = some gs) : ¬ x i ∧ s.gens[i]? = some gs ∧ ∃ k l c p fs cl, gs = .suspended k l c p fs cl := by
  unfold slp at h
  by_cases hx : x i
  · rw [if_pos hx] at h; cases h
  · rw [if_neg hx] at h
    refine ⟨hx, ?_⟩
    split at h
    · next e => cases h; exact ⟨e, _, _, _, _, _, _, rfl⟩
    · cases h
theorem slp_none {x : Nat → Prop} {s : Shared} {i : Nat} {k l c p fs cl} (h : slp x s i = none) (e : s.gens[i]? = some (.suspended k l c p fs cl)) : x i := by
  unfold slp at h
  by_cases hx : x i
  · exact hx
  · rw [if_neg hx, e] at h; cases h
theorem un_lull (x : Nat → Prop) (s : Shared) : un (slp x s) (lull x s) = s := by
  obtain ⟨h, g, d, t, o⟩ := s
  unfold un lull
  congr 1
  apply Array.ext
  · simp
  · intro i h1 h2
    refine Option.some.inj ?_
    have hi : i < g.size := h2
    rw [← Array.getElem?_eq_getElem h1, ← Array.getElem?_eq_getElem h2]
    simp only [Array.getElem?_mapIdx, Array.getElem?_eq_getElem hi, Option.map_some]
    congr 1
    cases q : slp x ⟨h, g, d, t, o⟩ i with
    | some gs =>
      have := (slp_some q).2.1
      rw [show (⟨h, g, d, t, o⟩ : Shared).gens[i]? = some g[i] from Array.getElem?_eq_getElem hi] at this
      cases this; rfl
    | none =>
      show (if x i then g[i] else psn g[i]) = g[i]
      by_cases hx : x i
      · rw [if_pos hx]
      · rw [if_neg hx]
        cases e : g[i] with
        | suspended k l c p fs cl => exact absurd (slp_none (s := ⟨h, g, d, t, o⟩) q ((Array.getElem?_eq_getElem hi).trans (congrArg some e))) hx
        | _ => rfl
theorem psn_bare {g : GenState} (h : g.bare = true) : (psn g).bare = true := by cases g <;> exact h
theorem lull_bare {x : Nat → Prop} {s : Shared} (h : AllBare s.gens) : AllBare (lull x s).gens := fun y hy => by
  obtain ⟨i, hi, e⟩ := Array.mem_iff_getElem.mp hy
  have hi' : i < s.gens.size := by simpa [lull] using hi
  have e' : (if x i then s.gens[i] else psn s.gens[i]) = y := by rw [← e]; simp [lull]
  have b := h s.gens[i] (Array.getElem_mem hi')
  rw [← e']
  split
  · exact b
  · exact psn_bare b
theorem lull_pz {x : Nat → Prop} {s : Shared} (hx : ∀ i gs, x i → s.gens[i]? = some gs → PlainG gs) : Pz (slp x s) (lull x s) := by
  have at_ : ∀ i gs, s.gens[i]? = some gs → (lull x s).gens[i]? = some (if x i then gs else psn gs) := fun i gs e => by simp [lull, e]
  refine ⟨fun i gs q => ?_, fun i gs q e => ?_⟩
  · obtain ⟨h1, h2, h3⟩ := slp_some q
    refine ⟨?_, h3⟩
    rw [at_ i gs h2, if_neg h1]
  · have hi : i < s.gens.size := by
      have := (Array.getElem?_eq_some_iff.mp e).1
      simpa [lull] using this
    rw [at_ i _ (Array.getElem?_eq_getElem hi)] at e
    by_cases hx' : x i
    · rw [if_pos hx'] at e
      cases e
      exact hx i _ hx' (Array.getElem?_eq_getElem hi)
    · rw [if_neg hx'] at e
      cases e
      intro k l c p fs cl y
      cases z : s.gens[i] with
      | suspended k l c p fs cl => exact absurd (slp_none q ((Array.getElem?_eq_getElem hi).trans (congrArg some z))) hx'
      | _ => rw [z] at y; cases y
/-- what stands behind a run under which the sleepers were left alone -/
structure Left (x : Nat → Prop) (s t' s' : Shared) : Prop where
  heap : s'.heap = t'.heap
  os : s'.os = t'.os
  size : s.gens.size ≤ s'.gens.size
  stay : ∀ i k l c p fs cl, ¬ x i → s.gens[i]? = some (.suspended k l c p fs cl) → s'.gens[i]? = some (.suspended k l c p fs cl)
  bare : AllBare s.gens → AllBare t'.gens → AllBare s'.gens
theorem left_of {x : Nat → Prop} {s t' : Shared} (z : Pz (slp x s) t') (hz : s.gens.size ≤ t'.gens.size) : Left x s t' (un (slp x s) t') := by
  refine ⟨rfl, rfl, by rw [un_size]; exact hz, fun i k l c p fs cl hx e => un_inn z ?_, fun hb hb' y hy => ?_⟩
  · unfold slp; rw [if_neg hx, e]
  · obtain ⟨i, hi, e⟩ := Array.mem_iff_getElem.mp hy
    have hi' : i < t'.gens.size := by rw [← un_size (G0 := slp x s)]; exact hi
    have e' : ((slp x s i).getD t'.gens[i]) = y := by rw [← e]; simp [un]
    rw [← e']
    cases q : slp x s i with
    | none => exact hb' _ (Array.getElem_mem hi')
    | some gs => exact hb gs (Array.mem_of_getElem? (slp_some q).2.1)
theorem wpAny_lull {α : Type} {M : Model} {A : Around} {m : Sem α} {Q : α → Shared → Prop} {E : Value → Shared → Prop} {s : Shared} (x : Nat → Prop) (hx : ∀ i gs, x i → s.gens[i]? = some gs → PlainG gs) (h : wpAny M A m Q E (lull x s)) :
    wpAny M A m (fun a s' => ∃ t', Left x s t' s' ∧ Q a t') (fun e s' => ∃ t', Left x s t' s' ∧ E e t') s := by
  have h2 : wpAny M A m (fun a s' => s.gens.size ≤ s'.gens.size ∧ Q a s') (fun e s' => s.gens.size ≤ s'.gens.size ∧ E e s') (lull x s) :=
    wpAny_gsz (n := s.gens.size) (by simp [lull]) (wpAny_mono h (fun _ _ q z => ⟨z, q⟩) fun _ _ q z => ⟨z, q⟩)
  intro Γ p hΓ
  have := wp_pz M Γ m _ _ p (lull x s) (lull_pz hx) (h2 Γ p hΓ)
  rw [un_lull] at this
  refine Sem.wp_mono M Γ m (fun a p' s' q => ?_) (fun e p' s' q => ?_) p s this
  · obtain ⟨t', rfl, z, hz, q⟩ := q
    exact ⟨t', left_of z hz, q⟩
  · obtain ⟨t', rfl, z, hz, q⟩ := q
    exact ⟨t', left_of z hz, q⟩
end
theorem lull_heap {x : Nat → Prop} {s : Shared} : (lull x s).heap = s.heap := rfl
theorem lull_os {x : Nat → Prop} {s : Shared} : (lull x s).os = s.os := rfl
/-- the invariant looks at the heap alone -/
theorem Inv.gens {X : Cx} {pins : List (Addr × Obj)} {σ : L2.St} {H : Hp} {s s' : Shared} (I : Inv X pins σ H s) (h : s'.heap = s.heap) (o : s'.os = s.os) (b : AllBare s'.gens) : Inv X pins σ H s' :=
  ⟨I.ok, o.trans I.os, b, by rw [h]; exact I.base, by rw [h]; exact I.loc, by rw [h]; exact I.cell, I.free, I.freeC, by rw [h]; exact I.pin, by rw [h]; exact I.hok, I.len⟩
end Xk

set_option Elab.async false
set_option linter.all false
set_option maxRecDepth 100000
set_option maxHeartbeats 20000000
namespace Xk
open PySem PySem.Spec PyProof.Rows L2 GenW
/-! ### a stretch of a generator's run, up to the next item or its end -/
def Sg (M : Model) (A : Around) (F : End → Shared → Prop) (c : Code) (tr : Sem PySem.Fin) (fs : List Frame) (s : Shared) : Prop :=
  ∀ (Γ : PySem.Ctx) (p : Pos), Γ.code = c → Γ.Woken A → ∃ e s', Runs M Γ p tr fs s e s' ∧ F e s'
section
variable {M : Model} {A : Around} {F : End → Shared → Prop} {c : Code} {fs : List Frame} {s : Shared}
theorem sg_wrap {α : Type} {m : Sem α} {K : α → Sem PySem.Fin} {J : Value → Sem PySem.Fin} {gd : Bool → Bool} {lv : List Value → List Value}
    (h : wpAny M (A.over c fs) m (fun a s' => Sg M A F c (K a) fs s') (fun u s' => Sg M A F c (J u) fs s') s) : Sg M A F c (m.wrap K J gd lv) fs s := by
  intro Γ p hc hw
  subst hc
  exact runs_wrap_of_wp K J gd lv m (h (Γ.over fs) p (hw.over fs)) (fun a p' s' z => z Γ p' rfl hw) fun u p' s' z => z Γ p' rfl hw
theorem sg_at {q : Pos} {k : Unit → Sem PySem.Fin} (h : Sg M A F c (k ()) fs s) : Sg M A F c (.at q k) fs s :=
  sg_wrap (m := standAt q) (K := k) (J := .raise) (gd := id) (lv := id) (wpAny_standAt h)
theorem sg_point {l : List Value} {k : Unit → Sem PySem.Fin} (h : Sg M A F c (k ()) fs s) : Sg M A F c (.point l k) fs s :=
  sg_wrap (m := point) (K := k) (J := .raise) (gd := id) (lv := fun _ => l) (wpAny_point h)
theorem sg_call {d : Code} {u g l} {k : Result → Sem PySem.Fin} (h : ∀ p, Sg M A F d (M.den d) (.ret k u g l c p [] :: fs) s) : Sg M A F c (.call d u g l k) fs s := by
  intro Γ p hc hw
  subst hc
  obtain ⟨e, s', r, z⟩ := h p (Γ.goto d) p rfl (hw.goto d)
  exact ⟨e, s', runs_call_seg r, z⟩
theorem sg_leaf {k u g l d q kp} (r : Result) (h : Sg M A F d (k r) fs s) : Sg M A F c (leafOf r) (.ret k u g l d q kp :: fs) s := by
  intro Γ p hc hw
  subst hc
  obtain ⟨e, s', z1, z2⟩ := h (Γ.goto d) q rfl (hw.goto d)
  exact ⟨e, s', Runs.pop r z1, z2⟩
theorem sg_again {d : Code} (hq : d.quiet = true) (h : Sg M A F d (M.den d) fs s) : Sg M A F c (.pure (.again d)) fs s := by
  intro Γ p hc hw
  subst hc
  obtain ⟨e, s', z1, z2⟩ := h (Γ.goto d) p rfl (hw.goto d)
  exact ⟨e, s', Runs.head (c₁ := d) (fun _ _ y => .again hq y) z1, z2⟩
theorem sg_end (r : Result) (h : F (.ret r) s) : Sg M A F c (leafOf r) [] s := fun _ _ _ _ => ⟨.ret r, s, Runs.leaf r, h⟩
theorem sg_yield {v g l} {k : Resume → Sem PySem.Fin} (hfs : splitAtGen fs = none) (h : ∀ p, F (.susp v g l k c p fs) s) : Sg M A F c (.yield v g l k) fs s := by
  intro Γ p hc _
  subst hc
  exact ⟨_, s, Runs.yield' fs hfs, h p⟩
end
section
variable {M : Model} {A : Around} {F : End → Shared → Prop} {c : Code} {fs : List Frame} {s : Shared} {env : Env} {K : Flow → Sem PySem.Fin} {J : Value → Sem PySem.Fin} {gd : Bool → Bool} {lv : List Value → List Value}
theorem sg_cons {st : Stmt} {rest : List Stmt} (h : Sg M A F c ((exec st env).wrap (fun f => match f with | .next => (execs rest env).wrap K J gd lv | f => K f) J gd lv) fs s) : Sg M A F c ((execs (st :: rest) env).wrap K J gd lv) fs s := by
  rw [execs_cons_wrap]; exact h
theorem sg_yieldSt {e : Expr} {yp pos : Pos} (hfs : splitAtGen fs = none) (hco : env.scope.isCoroutine = false) (hi : interactive env = false)
    (h : wpAny M (A.over c fs) (eval e env) (fun v s' => ∀ (p : Pos) (l : List Value) (k : Resume → Sem PySem.Fin), (∀ (F' : End → Shared → Prop) (s2 : Shared), Sg M A F' c (K .next) fs s2 → Sg M A F' c (k (.send .none)) fs s2) → F (.susp v (gd false) l k c p fs) s')
      (fun u s' => Sg M A F c (J u) fs s') s) : Sg M A F c ((exec (.Expr (.Yield (some e) yp) pos) env).wrap K J gd lv) fs s := by
  rw [exec_Expr env _ pos hi rfl]
  show Sg M A F c (.at pos fun _ => ((eval e env >>= fun v => (standAt yp >>= fun _ => yieldOut env v)) >>= fun y => dropValue (.Yield (some e) yp) pos y).wrap K J gd lv) fs s
  have ey : ∀ v, yieldOut env v = yieldValue v := fun v => by simp only [yieldOut, hco, Bool.false_eq_true, if_false]
  simp only [ey]
  refine sg_at ?_
  rw [Sem.bind_eq_wrap', Sem.bind_eq_wrap', Sem.wrap_wrap, Sem.wrap_wrap]
  refine sg_wrap (wpAny_mono h (fun v s' z => ?_) fun _ _ y => y)
  exact sg_at (sg_yield hfs fun p => z p _ _ fun F' s2 y => y)
theorem sg_if {test : Expr} {b o : List Stmt} {pos : Pos} (h : wpAny M (A.over c fs) (isTrue test env (eval test env)) (fun t s' => if t = true then Sg M A F c ((execs b env).wrap K J gd lv) fs s' else Sg M A F c ((execs o env).wrap K J gd lv) fs s') (fun u s' => Sg M A F c (J u) fs s') s) :
    Sg M A F c ((exec (.If test b o pos) env).wrap K J gd lv) fs s := by
  rw [exec_If]
  show Sg M A F c (.at pos fun _ => (isTrue test env (eval test env) >>= fun t => if t = true then execs b env else execs o env).wrap K J gd lv) fs s
  refine sg_at ?_
  rw [Sem.bind_eq_wrap', Sem.wrap_wrap]
  refine sg_wrap (wpAny_mono h (fun t s' z => ?_) fun _ _ y => y)
  cases t with
  | true => exact z
  | false => exact z
theorem sg_While {test : Expr} {body : List Stmt} {pos : Pos} (h : ∀ p, Sg M A F (.whileLoop test body [] env) (M.den (.whileLoop test body [] env)) (.ret (fun r => ((match r with | .ok f => (.pure f : Sem Flow) | .error e => .raise e).onRaise (cameBack env)).wrap K J gd lv) none (gd false) (lv []) c p [] :: fs) s) :
    Sg M A F c ((exec (.While test body [] pos) env).wrap K J gd lv) fs s := sg_at (sg_call h)
theorem sg_For {target iter : Expr} {body : List Stmt} {pos : Pos} (hs : ∀ x, foldedSetIterable iter env x = pure x)
    (h : wpAny M (A.over c fs) (eval iter env) (fun x s1 => wpAny M (A.over c fs) (pyIter x) (fun it s2 => ∀ p, Sg M A F (.forLoop target it body [] env) (M.den (.forLoop target it body [] env))
      (.ret (fun r => ((match r with | .ok f => (.pure f : Sem Flow) | .error e => .raise e).onRaise (cameBack env)).wrap K J gd lv) none (gd false) (lv []) c p [] :: fs) s2) (fun u s' => Sg M A F c (J u) fs s') s1) (fun u s' => Sg M A F c (J u) fs s') s) :
    Sg M A F c ((exec (.For target iter body [] pos) env).wrap K J gd lv) fs s := by
  rw [exec_For]
  simp only [hs]
  rw [Sem.bind_eq_wrap', Sem.wrap_wrap]
  refine sg_wrap (wpAny_standAt ?_)
  rw [Sem.bind_eq_wrap', Sem.wrap_wrap]
  refine sg_wrap (wpAny_mono h (fun x s1 h1 => ?_) fun _ _ z => z)
  show Sg M A F c (Sem.wrap K J gd lv (standAt iter.pos >>= fun _ => holding [x] (pyIter x) >>= fun it => runOwn (.forLoop target it body [] env) env)) fs s1
  rw [Sem.bind_eq_wrap', Sem.wrap_wrap]
  refine sg_wrap (wpAny_standAt ?_)
  rw [Sem.bind_eq_wrap', Sem.wrap_wrap]
  exact sg_wrap (wpAny_holding (wpAny_mono h1 (fun it s2 h2 => sg_call h2) fun _ _ z => z))
end
section
variable {prog : Program} {w : World} {A : Around} {F : End → Shared → Prop} {fs : List Frame} {s : Shared} {env : Env}
theorem sg_whileTurn {test : Expr} {body : List Stmt}
    (h : wpAny (model prog w) (A.over (.whileLoop test body [] env) fs) (isTrue test env (eval test env)) (fun b s' => if b = true then
        Sg (model prog w) A F (.whileLoop test body [] env) ((execs body env).wrap (fun f => match f with
          | .next | .cont => .pure (.again (.whileLoop test body [] env))
          | .brk => .pure (.done .next)
          | .ret v => .pure (.done (.ret v))) (fun e => (do noteFrame e env; theTreesLotGoes e : Sem Unit).wrap (fun _ => .raise e) .raise id id) id id) fs s'
        else Sg (model prog w) A F (.whileLoop test body [] env) (.pure (.done .next)) fs s') (fun _ _ => False) s) :
    Sg (model prog w) A F (.whileLoop test body [] env) ((model prog w).den (.whileLoop test body [] env)) fs s := by
  show Sg _ A F _ ((whileTurn test body [] env).onRaise (fun x => do noteFrame x env; theTreesLotGoes x)) fs s
  unfold whileTurn
  rw [Sem.onRaise_eq_wrap, Sem.bind_eq_wrap', Sem.wrap_wrap]
  refine sg_wrap (wpAny_mono h (fun b s' hb => ?_) fun u s' z => z.elim)
  cases b with
  | true =>
    show Sg _ A F _ (Sem.wrap _ _ _ _ (if true = true then _ else _)) fs s'
    rw [if_pos rfl, Sem.bind_eq_wrap', Sem.wrap_wrap]
    rw [Sem.wrap_congr (execs body env) _ _ (K' := fun f => match f with
          | .next | .cont => .pure (.again (.whileLoop test body [] env))
          | .brk => .pure (.done .next)
          | .ret v => .pure (.done (.ret v))) (H' := (fun e => (do noteFrame e env; theTreesLotGoes e : Sem Unit).wrap (fun _ => .raise e) .raise id id))
      (fun f => by cases f <;> rfl)
      (fun e => by first | exact Sem.bind_eq_wrap _ _ | (show (do noteFrame e env; theTreesLotGoes e : Sem Unit).bind (fun _ => .raise e) = _; rw [Sem.bind_eq_wrap]))]
    exact hb
  | false => exact hb
theorem sg_func {body : List Stmt}
    (h : Sg (model prog w) A F (.func body env) ((execs body env).wrap (fun f => .pure (.done (.ret (match f with | .ret v => v | _ => .none)))) (fun e => (leaving env e).wrap (fun _ => .raise e) .raise id id) id id) fs s) :
    Sg (model prog w) A F (.func body env) ((model prog w).den (.func body env)) fs s := by
  show Sg _ A F _ (.point [] fun _ => ((execs body env).onRaise (leaving env)) >>= _) fs s
  refine sg_point ?_
  rw [Sem.onRaise_eq_wrap, Sem.bind_eq_wrap', Sem.wrap_wrap]
  have key := Sem.wrap_congr (execs body env) (K := fun f => Sem.wrap (fun (f : Flow) => (pure (.done (.ret (match f with | .ret v => v | _ => .none))) : Sem PySem.Fin)) .raise id id (.pure f)) (H := fun e => Sem.wrap (fun (f : Flow) => (pure (.done (.ret (match f with | .ret v => v | _ => .none))) : Sem PySem.Fin)) .raise id id ((leaving env e).bind fun _ => .raise e))
    (K' := fun f => .pure (.done (.ret (match f with | .ret v => v | _ => .none)))) (H' := fun e => (leaving env e).wrap (fun _ => .raise e) .raise id id) id id (fun f => by cases f <;> rfl) (fun e => by rw [Sem.bind_eq_wrap, Sem.wrap_wrap]; rfl)
  first
    | (rw [key]; exact h)
    | (refine Eq.mpr (congrArg (fun t => Sg _ A F _ t fs s) ?_) h
       refine Sem.wrap_congr (execs body env) _ _ (fun f => ?_) (fun e => ?_)
       · cases f <;> rfl
       · first | rfl | (rw [Sem.bind_eq_wrap, Sem.wrap_wrap]; rfl))
theorem sg_forTurn {target : Expr} {it : Value} {body : List Stmt}
    (h : wpAny (model prog w) (A.over (.forLoop target it body [] env) fs) (pyNext it) (fun r s' => match r with
      | none => Sg (model prog w) A F (.forLoop target it body [] env) (.pure (.again (.block [] env))) fs s'
      | some v => wpAny (model prog w) (A.over (.forLoop target it body [] env) fs) (letOwnedTupleGo target it v) (fun _ s1 =>
          wpAny (model prog w) (A.over (.forLoop target it body [] env) fs) (assign target env v) (fun _ s2 =>
            Sg (model prog w) A F (.forLoop target it body [] env) ((execs body env).wrap (fun f => match f with
              | .next | .cont => .pure (.again (.forLoop target it body [] env))
              | .brk => .pure (.done .next)
              | .ret v => .pure (.done (.ret v))) (fun e => (do noteFrame e env; theTreesLotGoes e : Sem Unit).wrap (fun _ => .raise e) .raise id id) id id) fs s2) (fun _ _ => False) s1) (fun _ _ => False) s') (fun _ _ => False) s) :
    Sg (model prog w) A F (.forLoop target it body [] env) ((model prog w).den (.forLoop target it body [] env)) fs s := by
  show Sg _ A F _ ((forTurn target it body [] env).onRaise (fun x => do noteFrame x env; theTreesLotGoes x)) fs s
  unfold forTurn
  rw [Sem.onRaise_eq_wrap, Sem.bind_eq_wrap', Sem.wrap_wrap]
  refine sg_wrap (wpAny_standAt ?_)
  rw [Sem.bind_eq_wrap', Sem.wrap_wrap]
  refine sg_wrap (wpAny_onRaise (wpAny_mono h (fun r s' hr => ?_) fun _ _ z => z.elim))
  cases r with
  | none => exact hr
  | some v =>
    show Sg _ A F _ (Sem.wrap _ _ _ _ (letOwnedTupleGo target it v >>= _)) fs s'
    rw [Sem.bind_eq_wrap', Sem.wrap_wrap]
    refine sg_wrap (wpAny_mono hr (fun _ s1 h1 => ?_) fun _ _ z => z.elim)
    rw [Sem.bind_eq_wrap', Sem.wrap_wrap]
    refine sg_wrap (wpAny_mono h1 (fun _ s2 h2 => ?_) fun _ _ z => z.elim)
    rw [Sem.bind_eq_wrap', Sem.wrap_wrap]
    rw [Sem.wrap_congr (execs body env) _ _ (K' := fun f => match f with
          | .next | .cont => .pure (.again (.forLoop target it body [] env))
          | .brk => .pure (.done .next)
          | .ret v => .pure (.done (.ret v))) (H' := (fun e => (do noteFrame e env; theTreesLotGoes e : Sem Unit).wrap (fun _ => .raise e) .raise id id))
      (fun f => by cases f <;> rfl)
      (fun e => by first | exact Sem.bind_eq_wrap _ _ | (show (do noteFrame e env; theTreesLotGoes e : Sem Unit).bind (fun _ => .raise e) = _; rw [Sem.bind_eq_wrap]))]
    exact h2
theorem sg_block0 {c : Code} {p : Pos} {l kp : List Value} {k : Result → Sem PySem.Fin} {g : Bool} (h : Sg (model prog w) A F c (k (.ok .next)) fs s) :
    Sg (model prog w) A F (.block [] env) ((model prog w).den (.block [] env)) (.ret k none g l c p kp :: fs) s := by
  show Sg _ A F _ (leafOf (.ok .next)) _ s
  exact sg_leaf (.ok .next) h
end
end Xk

set_option Elab.async false
set_option linter.all false
set_option maxRecDepth 100000
set_option maxHeartbeats 20000000
namespace Xk
open PySem PySem.Spec PyProof.Rows L2 GenW
/-! ### a generator's body whose consumer may do what it likes between the items -/
/-- where the present stretch began -/
structure Bs where
  s : Shared
  H : Hp
  pn : List (Addr × Obj)
  /-- the whole of it, and what is the generator's own -/
  full : Shared
  fH : Hp
  pv : List (Addr × Obj)
  m : Nat
abbrev rb (X : Cx) (b : Bs) : Cx := { X with s_0 := b.s, H_0 := b.H, pn := b.pn }
structure Vb (X : Cx) (b : Bs) : Prop where
  sz : b.s.heap.objs.size = X.env.locals
  low : ∀ a, a < X.env.locals → b.s.heap.get? a = b.full.heap.get? a
  lowH : ∀ a, a < X.env.locals → b.H a = b.fH a
  pns : ∀ a o, X.env.locals ≤ a → b.full.heap.get? a = some o → b.fH a = none → (∀ p ∈ b.pv, p.1 ≠ a) → (∀ v, o.data ≠ .cell v) → (a, o) ∈ b.pn
  loc : ∃ o, (X.env.locals, o) ∈ b.pv
  os : b.s.os = b.full.os
structure Ri (X : Cx) (b : Bs) (ip : List (Addr × Obj)) (σ : L2.St) (H : Hp) (s : Shared) : Prop where
  inv : Inv (rb X b) ip σ H s
  off : ∀ p ∈ b.pn, ∀ q ∈ ip, p.1 ≠ q.1
  hi : ∀ q ∈ ip, X.env.locals ≤ q.1
  vb : Vb X b
structure VEnds (U : Type) where
  nx : U → L2.St → Hp → Prop
  rt : U → VK
  bk : U → L2.St → Hp → Prop := fun _ _ _ => False
  ct : U → L2.St → Hp → Prop := fun _ _ _ => False
  yl : U → V → Hp → (U → Hp → Prop) → Prop
abbrev TV (U : Type) := VEnds U → U → L2.St → Hp → Prop
section
variable {U : Type}
def VEnds.at (D : VEnds U) (u : U) : Ends := { nx := D.nx u, rt := D.rt u, bk := D.bk u, ct := D.ct u }
def VSP (X : Cx) (ip : List (Addr × Obj)) (D : VEnds U) (b : Bs) (u : U) (f : Flow) (s : Shared) : Prop :=
  match f with
  | .next => ∃ σ H, Ri X b ip σ H s ∧ D.nx u σ H
  | .brk => ∃ σ H, Ri X b ip σ H s ∧ D.bk u σ H
  | .cont => ∃ σ H, Ri X b ip σ H s ∧ D.ct u σ H
  | .ret r => ∃ v σ H, Ri X b ip σ H s ∧ RelV v r ∧ D.rt u v H
structure VC (X : Cx) (A : Around) (c : Code) (fs : List Frame) (gd : Bool → Bool) : Prop where
  over : A.over c fs = X.A
  split : splitAtGen fs = none
  guard : fs.any Frame.guarded = false
  gd : gd false = false
abbrev Fam (U : Type) := Bs → U → End → Shared → Prop
def VOk (X : Cx) (ip : List (Addr × Obj)) (A : Around) (F : Fam U) (c : Code) (fs : List Frame) (K : Flow → Sem PySem.Fin) (D : VEnds U) : Prop :=
  ∀ b u s f, VSP X ip D b u f s → Sg (model X.prog X.w) A (F b u) c (K f) fs s
def VYl (X : Cx) (A : Around) (F : Fam U) (yl : U → V → Hp → (U → Hp → Prop) → Prop) : Prop :=
  ∀ (b : Bs) (u : U) (x : V) (v : Value) (ip : List (Addr × Obj)) (σ : L2.St) (H : Hp) (s : Shared) (l : List Value) (k : Resume → Sem PySem.Fin) (c : Code) (p : Pos) (fs : List Frame) (N : U → Hp → Prop),
    RelV x v → Ri X b ip σ H s → yl u x H N → splitAtGen fs = none → fs.any Frame.guarded = false →
    (∀ b' u' s' H', Ri X b' ip σ H' s' → N u' H' → Sg (model X.prog X.w) A (F b' u') c (k (.send .none)) fs s') → F b u (.susp v false l k c p fs) s
structure GV (U : Type) (X : Cx) (st : Stmt) (t : TV U) : Prop where
  run : ∀ (A : Around) (F : Fam U) (ip : List (Addr × Obj)) (b : Bs) (u : U) (c : Code) (fs : List Frame) (K : Flow → Sem PySem.Fin) (J : Value → Sem PySem.Fin) (gd : Bool → Bool) (lv : List Value → List Value) (s : Shared) (σ : L2.St) (H : Hp) (D : VEnds U),
    VC X A c fs gd → VYl X A F D.yl → VOk X ip A F c fs K D → Ri X b ip σ H s → t D u σ H → Sg (model X.prog X.w) A (F b u) c ((exec st X.env).wrap K J gd lv) fs s
structure GVs (U : Type) (X : Cx) (st : List Stmt) (t : TV U) : Prop where
  run : ∀ (A : Around) (F : Fam U) (ip : List (Addr × Obj)) (b : Bs) (u : U) (c : Code) (fs : List Frame) (K : Flow → Sem PySem.Fin) (J : Value → Sem PySem.Fin) (gd : Bool → Bool) (lv : List Value → List Value) (s : Shared) (σ : L2.St) (H : Hp) (D : VEnds U),
    VC X A c fs gd → VYl X A F D.yl → VOk X ip A F c fs K D → Ri X b ip σ H s → t D u σ H → Sg (model X.prog X.w) A (F b u) c ((execs st X.env).wrap K J gd lv) fs s
def tPlainV (t : TS) : TV U := fun D u σ H => t (D.at u) σ H
variable {X : Cx} {st : Stmt} {rest : List Stmt}
theorem vsp_of {ip : List (Addr × Obj)} {D : VEnds U} {b : Bs} {u : U} {f : Flow} {s : Shared} (ho : ∀ p ∈ b.pn, ∀ q ∈ ip, p.1 ≠ q.1) (hh : ∀ q ∈ ip, X.env.locals ≤ q.1) (hz : Vb X b) (h : SP (rb X b) ip (D.at u) f s) : VSP X ip D b u f s := by
  cases f with
  | next => obtain ⟨σ, H, I, q⟩ := h; exact ⟨σ, H, ⟨I, ho, hh, hz⟩, q⟩
  | brk => obtain ⟨σ, H, I, q⟩ := h; exact ⟨σ, H, ⟨I, ho, hh, hz⟩, q⟩
  | cont => obtain ⟨σ, H, I, q⟩ := h; exact ⟨σ, H, ⟨I, ho, hh, hz⟩, q⟩
  | ret r => obtain ⟨v, σ, H, I, r1, q⟩ := h; exact ⟨v, σ, H, ⟨I, ho, hh, hz⟩, r1, q⟩
theorem gv_ps {t : TS} (hno : ∀ e s', X.xe e s' → False) (h : ∀ b, PS (rb X b) st t) : GV U X st (tPlainV t) := by
  refine ⟨fun A F ip b u c fs K J gd lv s σ H D g hy k I ht => ?_⟩
  refine sg_wrap ?_
  rw [g.over]
  exact wpAny_mono ((h b).run ip s σ H (D.at u) I.inv ht) (fun f s' hs => k b u s' f (vsp_of I.off I.hi I.vb hs)) fun e s' z => (hno e s' z).elim
theorem gvs_pss {t : TS} (hno : ∀ e s', X.xe e s' → False) (h : ∀ b, PSs (rb X b) rest t) : GVs U X rest (tPlainV t) := by
  refine ⟨fun A F ip b u c fs K J gd lv s σ H D g hy k I ht => ?_⟩
  refine sg_wrap ?_
  rw [g.over]
  exact wpAny_mono ((h b).run ip s σ H (D.at u) I.inv ht) (fun f s' hs => k b u s' f (vsp_of I.off I.hi I.vb hs)) fun e s' z => (hno e s' z).elim
def tV0 : TV U := fun D u σ H => D.nx u σ H
theorem gvs_nil : GVs U X [] tV0 := ⟨fun A F ip b u c fs K J gd lv s σ H D g hy k I ht => k b u s .next ⟨σ, H, I, ht⟩⟩
def tVThen (t v : TV U) : TV U := fun D u σ H => t { D with nx := fun u' σ' H' => v D u' σ' H' } u σ H
theorem gvs_cons {t v : TV U} (h1 : GV U X st t) (h2 : GVs U X rest v) : GVs U X (st :: rest) (tVThen t v) := by
  refine ⟨fun A F ip b u c fs K J gd lv s σ H D g hy k I ht => sg_cons ?_⟩
  refine h1.run A F ip b u c fs _ J gd lv s σ H { D with nx := fun u' σ' H' => v D u' σ' H' } g hy (fun b' u' s' f hs => ?_) I ht
  cases f with
  | next =>
    obtain ⟨σ', H', I', q⟩ := hs
    exact h2.run A F ip b' u' c fs K J gd lv s' σ' H' D g hy k I' q
  | brk => exact k b' u' s' .brk hs
  | cont => exact k b' u' s' .cont hs
  | ret r => exact k b' u' s' (.ret r) hs
def tVYield (te : TE) : TV U := fun D u σ H => te σ H fun x H1 => D.yl u x H1 fun u' H2 => D.nx u' σ H2
theorem gv_yield {e : Expr} {yp pos : Pos} {te : TE} (hno : ∀ e s', X.xe e s' → False) (he : ∀ b, PE (rb X b) e te) (hco : X.env.scope.isCoroutine = false := by rfl) (hi : interactive X.env = false := by rfl) : GV U X (.Expr (.Yield (some e) yp) pos) (tVYield te) := by
  refine ⟨fun A F ip b u c fs K J gd lv s σ H D g hy k I ht => ?_⟩
  refine sg_yieldSt g.split hco hi ?_
  rw [g.over]
  refine wpAny_mono ((he b).run ip s σ H _ I.inv ht) (fun v s' hv p l kk hk => ?_) fun e s' z => (hno e s' z).elim
  obtain ⟨x, H1, I1, rv, q⟩ := hv
  rw [g.gd]
  exact hy b u x v ip σ H1 s' l kk c p fs _ rv ⟨I1, I.off, I.hi, I.vb⟩ q g.split g.guard fun b' u' s2 H2 I2 n2 => hk _ _ (k b' u' s2 .next ⟨σ, H2, I2, n2⟩)
def tVIf (tc : TT) (t v : TV U) : TV U := fun D u σ H => tc σ H fun d H1 => if d = true then t D u σ H1 else v D u σ H1
theorem gv_if {test : Expr} {b1 b2 : List Stmt} {pos : Pos} {tc : TT} {t v : TV U} (hno : ∀ e s', X.xe e s' → False) (hc : ∀ b, PT (rb X b) test tc) (h1 : GVs U X b1 t) (h2 : GVs U X b2 v) : GV U X (.If test b1 b2 pos) (tVIf tc t v) := by
  refine ⟨fun A F ip b u c fs K J gd lv s σ H D g hy k I ht => sg_if ?_⟩
  rw [g.over]
  refine wpAny_mono ((hc b).run ip s σ H _ I.inv ht) (fun d s' hs => ?_) fun e s' z => (hno e s' z).elim
  obtain ⟨H1, I1, q⟩ := hs
  cases d with
  | true => rw [if_pos rfl] at q ⊢; exact h1.run A F ip b u c fs K J gd lv s' σ H1 D g hy k ⟨I1, I.off, I.hi, I.vb⟩ q
  | false => rw [if_neg Bool.false_ne_true] at q ⊢; exact h2.run A F ip b u c fs K J gd lv s' σ H1 D g hy k ⟨I1, I.off, I.hi, I.vb⟩ q
theorem vc_loop {A : Around} {c c' : Code} {fs : List Frame} {gd : Bool → Bool} {k : Result → Sem PySem.Fin} {l kp : List Value} {p : Pos} (g : VC X A c fs gd) (hw : c'.weight = 0) (hu : c'.cUnits = 0) : VC X A c' (.ret k none (gd false) l c p kp :: fs) id where
  over := (over_loop hw hu).trans g.over
  split := by
    show (splitAtGen fs).map _ = none
    rw [g.split]; rfl
  guard := by
    show (gd false || fs.any Frame.guarded) = false
    rw [g.gd, g.guard]; rfl
  gd := rfl
def tVWhile (tc : TT) (tb : TV U) : TV U := fun D u σ H => ∃ W : Nat → U → L2.St → Hp → Prop, (∃ m, W m u σ H) ∧ ∀ m u σ H, W m u σ H →
  tc σ H fun d H1 => if d = true then ∃ N : U → L2.St → Hp → Prop, (∀ u' σ' H', N u' σ' H' → ∃ m', m' < m ∧ W m' u' σ' H') ∧ tb { D with nx := N, ct := N, bk := D.nx } u σ H1 else D.nx u σ H1
theorem gv_while {test : Expr} {body : List Stmt} {pos : Pos} {tc : TT} {tb : TV U} (hno : ∀ e s', X.xe e s' → False) (hc : ∀ b, PT (rb X b) test tc) (hb : GVs U X body tb) : GV U X (.While test body [] pos) (tVWhile tc tb) := by
  refine ⟨fun A F ip b u c fs K J gd lv s σ H D g hy k I ht => ?_⟩
  obtain ⟨W, ⟨m0, w0⟩, turn⟩ := ht
  refine sg_While fun p => ?_
  have gl := fun (kk : Result → Sem PySem.Fin) => vc_loop (k := kk) (c' := .whileLoop test body [] X.env) (l := lv []) (kp := []) (p := p) g rfl rfl
  have loop : ∀ (m : Nat) (b : Bs) (u : U) (s : Shared) (σ : L2.St) (H : Hp), W m u σ H → Ri X b ip σ H s →
      Sg (model X.prog X.w) A (F b u) (.whileLoop test body [] X.env) ((model X.prog X.w).den (.whileLoop test body [] X.env))
        (.ret (fun r => ((match r with | .ok f => (.pure f : Sem Flow) | .error e => .raise e).onRaise (cameBack X.env)).wrap K J gd lv) none (gd false) (lv []) c p [] :: fs) s := by
    intro m
    induction m using Nat.strongRecOn with
    | ind m ih =>
      intro b u s σ H w I
      refine sg_whileTurn ?_
      rw [(gl _).over]
      refine wpAny_mono ((hc b).run ip s σ H _ I.inv (turn m u σ H w)) (fun d s' hd => ?_) fun e s' z => (hno e s' z).elim
      obtain ⟨H2, I2, q2⟩ := hd
      have I2' : Ri X b ip σ H2 s' := ⟨I2, I.off, I.hi, I.vb⟩
      cases d with
      | true =>
        rw [if_pos rfl] at q2 ⊢
        obtain ⟨N, hN, q2⟩ := q2
        refine hb.run A F ip b u _ _ _ _ id id s' σ H2 { D with nx := N, ct := N, bk := D.nx } (gl _) hy (fun b3 u3 s3 f hs => ?_) I2' q2
        cases f with
        | next =>
          obtain ⟨σ3, H3, I3, n3⟩ := hs
          obtain ⟨m', hm, w3⟩ := hN u3 σ3 H3 n3
          exact sg_again rfl (ih m' hm b3 u3 s3 σ3 H3 w3 I3)
        | cont =>
          obtain ⟨σ3, H3, I3, n3⟩ := hs
          obtain ⟨m', hm, w3⟩ := hN u3 σ3 H3 n3
          exact sg_again rfl (ih m' hm b3 u3 s3 σ3 H3 w3 I3)
        | brk => exact sg_leaf (.ok .next) (k b3 u3 s3 .next hs)
        | ret v => exact sg_leaf (.ok (.ret v)) (k b3 u3 s3 (.ret v) hs)
      | false =>
        rw [if_neg Bool.false_ne_true] at q2 ⊢
        exact sg_leaf (.ok .next) (k b u s' .next ⟨σ, H2, I2', q2⟩)
  exact loop m0 b u s σ H w0 I
def tVFor (wi : TI) (g : TG) (tb : TV U) : TV U := fun D u σ H => wi σ H fun J H1 => ∃ W : Nat → Nat → U → L2.St → Hp → Prop, (∃ m, W 0 m u σ H1) ∧ ∀ i m u σ H, W i m u σ H →
  (J.stop i H ∧ D.nx u σ H) ∨ (J.go i H ∧ ∃ N : U → L2.St → Hp → Prop, (∀ u' σ' H', N u' σ' H' → ∃ m', m' < m ∧ W (i + 1) m' u' σ' H') ∧ ∀ x H', J.yld i H x H' → g x σ H' fun σ2 H2 => tb { D with nx := N, ct := N, bk := D.nx } u σ2 H2)
theorem gv_for {tg iter : Expr} {body : List Stmt} {wi : TI} {g : TG} {tb : TV U} {pos : Pos} (hno : ∀ e s', X.xe e s' → False) (hc : X.calm = true) (hex : X.ex = []) (hi : ∀ b, PI (rb X b) tg iter wi) (hg : ∀ b, PG (rb X b) tg g) (hb : GVs U X body tb)
    (hs : ∀ x, foldedSetIterable iter X.env x = pure x := by intro _; rfl) : GV U X (.For tg iter body [] pos) (tVFor wi g tb) := by
  refine ⟨fun A F ip b0 u c fs K J gd lv s σ H D gc hy k I ht => ?_⟩
  refine sg_For hs ?_
  rw [gc.over]
  refine wpAny_mono ((hi b0).run _ s σ H _ I.inv ht) (fun v s1 h1 => wpAny_mono h1 (fun itv s2 h2 => ?_) fun x s' hx => (hno x s' hx).elim) fun x s' hx => (hno x s' hx).elim
  obtain ⟨it, fp, tn, J', H2, e, I2, T, st2, f2, W, ⟨m0, w0⟩, turn⟩ := h2
  subst e
  intro p
  have gl := fun (kk : Result → Sem PySem.Fin) => vc_loop (k := kk) (c' := .forLoop tg (.ref it) body [] X.env) (l := lv []) (kp := []) (p := p) gc rfl rfl
  -- the iterator's own objects, at any base
  have fpl : ∀ a ∈ fp, X.env.locals ≤ a := fun a ha => by
    obtain ⟨_, _, _, f5, _, _⟩ := f2 a ha
    rcases f5 with f5 | f5
    · exact absurd (show a ∈ X.ex from f5) (by rw [hex]; exact List.not_mem_nil)
    · rw [← I.vb.sz]; exact f5
  have stat : ∀ {b : Bs} {H' : Hp}, b.s.heap.objs.size = X.env.locals → (∀ a ∈ fp, H' a = none) → (∀ q ∈ b.pn, ∀ a ∈ fp, q.1 ≠ a) → ∀ a ∈ fp, FpOk (rb X b) ip H' a := fun {b H'} hz hn ho a ha => by
    obtain ⟨_, f3, f4, f5, f6, f7⟩ := f2 a ha
    refine ⟨hn a ha, f3, f4, ?_, f6, fun q hq => ?_⟩
    · exact .inr (by show b.s.heap.objs.size ≤ a; rw [hz]; exact fpl a ha)
    · rcases List.mem_append.mp hq with z | z
      · exact ho q z a ha
      · exact f7 q (List.mem_append_right _ z)
  have loop : ∀ (m i : Nat) (b : Bs) (u : U) (s : Shared) (σ : L2.St) (H : Hp), W i m u σ H → Ri X b ip σ H s → tn i s.heap → (∀ a ∈ fp, H a = none) → (∀ q ∈ b.pn, ∀ a ∈ fp, q.1 ≠ a) →
      Sg (model X.prog X.w) A (F b u) (.forLoop tg (.ref it) body [] X.env) ((model X.prog X.w).den (.forLoop tg (.ref it) body [] X.env))
        (.ret (fun r => ((match r with | .ok f => (.pure f : Sem Flow) | .error e => .raise e).onRaise (cameBack X.env)).wrap K J gd lv) none (gd false) (lv []) c p [] :: fs) s := by
    intro m
    induction m using Nat.strongRecOn with
    | ind m ih =>
      intro i b u s3 σ3 H3 w I st3 fr3 of3
      refine sg_forTurn ?_
      rw [(gl _).over]
      rcases turn i m u σ3 H3 w with ⟨stop, qn⟩ | ⟨go, N, hN, step⟩
      · refine wpAny_mono (T.done (rb X b) rfl rfl rfl hc i _ s3 σ3 H3 (fun _ _ => False) I.inv (stat I.vb.sz fr3 of3) st3 stop) (fun r' s4 hr4 => ?_) fun _ _ z => z
        obtain ⟨hr, I4⟩ := hr4
        subst hr
        exact sg_again rfl (sg_block0 (k b u s4 .next ⟨σ3, H3, ⟨I4, I.off, I.hi, I.vb⟩, qn⟩))
      · refine wpAny_mono (T.item (rb X b) rfl rfl rfl hc i _ s3 σ3 H3 (fun _ _ => False) I.inv (stat I.vb.sz fr3 of3) st3 go) (fun r' s4 hr4 => ?_) fun _ _ z => z
        obtain ⟨v, hr, h4⟩ := hr4
        subst hr
        refine wpAny_mono h4 (fun _ s5 h5 => ?_) fun _ _ z => z
        obtain ⟨x, H5, I5, r5, y5, st5, fr5⟩ := h5
        have I5' := I5.pinned (stat I.vb.sz fr5 of3) (T.obj _ _ st5)
        refine wpAny_mono ((hg b).run _ s5 σ3 H5 x v _ I5' r5 (step x H5 y5)) (fun _ s6 h6 => ?_) fun x s' hx => hno x s' hx
        obtain ⟨σ6, H6, I6, q6⟩ := h6
        have I6' : Ri X b (ip ++ pinsAt fp s5.heap) σ6 H6 s6 := ⟨I6, fun q1 h1 q2 h2 => by
          rcases List.mem_append.mp h2 with z | z
          · exact I.off q1 h1 q2 z
          · exact of3 q1 h1 q2.1 (of_pinsAt z).1, fun q hq => (List.mem_append.mp hq).elim (I.hi q) fun z => fpl q.1 (of_pinsAt z).1, I.vb⟩
        have back : ∀ {b7 : Bs} {σ7 : L2.St} {H7 : Hp} {s7 : Shared}, Ri X b7 (ip ++ pinsAt fp s5.heap) σ7 H7 s7 → Ri X b7 ip σ7 H7 s7 ∧ tn (i + 1) s7.heap ∧ (∀ a ∈ fp, H7 a = none) ∧ ∀ q ∈ b7.pn, ∀ a ∈ fp, q.1 ≠ a := fun {b7 σ7 H7 s7} I7 => by
          refine ⟨⟨I7.inv.pins_of fun q hq => I7.inv.pin q ?_, fun q1 h1 q2 h2 => I7.off q1 h1 q2 (List.mem_append_left _ h2), fun q hq => I7.hi q (List.mem_append_left _ hq), I7.vb⟩, T.keep _ _ _ st5 fun a ha o e => (I7.inv.pin (a, o) (List.mem_append_right _ (List.mem_append_right _ (mem_pinsAt ha e)))).1, fun a ha => ?_, fun q hq a ha => ?_⟩
          · exact List.mem_append_right _ (List.mem_append_left _ hq)
          · obtain ⟨o, e, _⟩ := T.obj _ _ st5 a ha
            exact (I7.inv.pin (a, o) (List.mem_append_right _ (List.mem_append_right _ (mem_pinsAt ha e)))).2.1
          · obtain ⟨o, e, _⟩ := T.obj _ _ st5 a ha
            exact I7.off q hq (a, o) (List.mem_append_right _ (mem_pinsAt ha e))
        refine hb.run A F (ip ++ pinsAt fp s5.heap) b u _ _ _ _ id id s6 σ6 H6 { D with nx := N, ct := N, bk := D.nx } (gl _) hy (fun b7 u7 s7 f hs => ?_) I6' q6
        cases f with
        | next =>
          obtain ⟨σ7, H7, I7, n7⟩ := hs
          obtain ⟨m', hm, w7⟩ := hN u7 σ7 H7 n7
          obtain ⟨b1, b2, b3, b4⟩ := back I7
          exact sg_again rfl (ih m' hm (i + 1) b7 u7 s7 σ7 H7 w7 b1 b2 b3 b4)
        | cont =>
          obtain ⟨σ7, H7, I7, n7⟩ := hs
          obtain ⟨m', hm, w7⟩ := hN u7 σ7 H7 n7
          obtain ⟨b1, b2, b3, b4⟩ := back I7
          exact sg_again rfl (ih m' hm (i + 1) b7 u7 s7 σ7 H7 w7 b1 b2 b3 b4)
        | brk =>
          obtain ⟨σ7, H7, I7, q7⟩ := hs
          exact sg_leaf (.ok .next) (k b7 u7 s7 .next ⟨σ7, H7, (back I7).1, q7⟩)
        | ret v =>
          obtain ⟨x7, σ7, H7, I7, r7, q7⟩ := hs
          exact sg_leaf (.ok (.ret v)) (k b7 u7 s7 (.ret v) ⟨x7, σ7, H7, (back I7).1, r7, q7⟩)
  refine loop m0 0 b0 u s2 σ H2 w0 ⟨I2, I.off, I.hi, I.vb⟩ st2 (fun a ha => (f2 a ha).1) fun q hq a ha => ?_
  exact (f2 a ha).2.2.2.2.2 q (List.mem_append_left _ hq)
end
end Xk

set_option Elab.async false
set_option linter.all false
set_option maxRecDepth 100000
set_option maxHeartbeats 20000000
namespace Xk
open PySem PySem.Spec PyProof.Rows L2 GenW
/-! ### what a generator does, item by item -/
/-- tuples stand; what is known stays known -/
structure Tame (H H' : Hp) : Prop where
  tups : ∀ b xs, H b = some (.tup xs) → H' b = some (.tup xs)
  frzs : ∀ b o u, H b = some (.frz o u) → H' b = some (.frz o u)
  tbls : ∀ b ps, H b = some (.tbl ps) → ∃ more, H' b = some (.tbl (ps ++ more))
  kept : ∀ b, H b ≠ none → H' b ≠ none
theorem Tame.of_same {H H' : Hp} (s : Same H H') : Tame H H' := ⟨fun b xs q => s _ _ q, fun b o u q => s _ _ q, fun b ps q => ⟨#[], by rw [s _ _ q]; simp⟩, fun b q => by
  cases e : H b with
  | none => exact absurd e q
  | some u => rw [s _ _ e]; exact fun z => by cases z⟩
theorem Tame.of_sx {H H' : Hp} {r : Addr} {xs ys : List V} (s : ∀ b u, H b = some u → b ≠ r → H' b = some u) (h : H r = some (.lst xs)) (h' : H' r = some (.lst ys)) : Tame H H' := by
  refine ⟨fun b xs q => ?_, fun b o u q => ?_, fun b ps q => ?_, fun b q => ?_⟩
  · by_cases e : b = r
    · rw [e, h] at q; cases q
    · exact s _ _ q e
  · by_cases e : b = r
    · rw [e, h] at q; cases q
    · exact s _ _ q e
  · by_cases e : b = r
    · rw [e, h] at q; cases q
    · exact ⟨#[], by rw [s _ _ q e]; simp⟩
  · by_cases e : b = r
    · rw [e, h']; exact fun z => by cases z
    · cases y : H b with
      | none => exact absurd y q
      | some u => rw [s _ _ y e]; exact fun z => by cases z
structure Mach where
  S : Type
  n : Nat
  St : Nat → S → Hp → Prop
  Y : Nat → S → Hp → V → S → Hp → Prop
  tame : ∀ i q H x q' H', Y i q H x q' H' → Tame H H'
/-- how a body is to run -/
@[reducible] def Mach.ends (M : Mach) : VEnds (Nat × M.S × Hp) where
  nx := fun u _ H => u.1 = M.n ∧ Same u.2.2 H
  rt := fun u v H => v = .non ∧ u.1 = M.n ∧ Same u.2.2 H
  yl := fun u x H1 N => ∃ q', u.1 < M.n ∧ M.Y u.1 u.2.1 u.2.2 x q' H1 ∧ ∀ H2, M.St (u.1 + 1) q' H2 → N (u.1 + 1, q', H2) H2
/-! ### a later stretch -/
section
open Classical
def cut (s : Shared) (n : Nat) : Shared := { s with heap := { s.heap with objs := s.heap.objs.extract 0 n } }
noncomputable def cutH (H : Hp) (n : Nat) : Hp := fun a => if a < n then H a else none
theorem cut_size {s : Shared} {n : Nat} (h : n ≤ s.heap.objs.size) : (cut s n).heap.objs.size = n := by
  show (s.heap.objs.extract 0 n).size = n
  simp; omega
theorem cut_get {s : Shared} {n a : Nat} (h : a < n) : (cut s n).heap.get? a = s.heap.get? a := by
  unfold cut Heap.get?
  have : (s.heap.objs.extract 0 n)[a]? = s.heap.objs[a]? := by
    rw [Array.getElem?_extract]
    split <;> simp_all
    omega
  simp only [this]
theorem cut_some {s : Shared} {n a : Nat} {o : Obj} (hn : n ≤ s.heap.objs.size) (h : (cut s n).heap.get? a = some o) : a < n ∧ s.heap.get? a = some o := by
  have hl : a < n := by have := Heap.lt_size h; rw [cut_size hn] at this; exact this
  exact ⟨hl, by rw [← cut_get hl]; exact h⟩
/-- all that stands from n on and is nobody's known, but what is the generator's own -/
noncomputable def pinsOf (s : Shared) (H : Hp) (n : Nat) (pv : List (Addr × Obj)) : List (Addr × Obj) :=
  (List.range s.heap.objs.size).filterMap fun a => if n ≤ a ∧ H a = none ∧ (∀ p ∈ pv, p.1 ≠ a) then (match s.heap.get? a with
    | some o => if (∀ v, o.data ≠ .cell v) then some (a, o) else none
    | none => none) else none
theorem mem_pinsOf {s : Shared} {H : Hp} {n : Nat} {pv : List (Addr × Obj)} {p : Addr × Obj} : p ∈ pinsOf s H n pv ↔ n ≤ p.1 ∧ H p.1 = none ∧ (∀ q ∈ pv, q.1 ≠ p.1) ∧ s.heap.get? p.1 = some p.2 ∧ ∀ v, p.2.data ≠ .cell v := by
  unfold pinsOf
  rw [List.mem_filterMap]
  constructor
  · rintro ⟨a, _, h⟩
    by_cases c : n ≤ a ∧ H a = none ∧ (∀ p ∈ pv, p.1 ≠ a)
    · rw [if_pos c] at h
      cases e : s.heap.get? a with
      | none => rw [e] at h; cases h
      | some o =>
        rw [e] at h
        by_cases d : ∀ v, o.data ≠ .cell v
        · simp only [if_pos d] at h; cases h; exact ⟨c.1, c.2.1, c.2.2, e, d⟩
        · simp only [if_neg d] at h; cases h
    · rw [if_neg c] at h; cases h
  · rintro ⟨h1, h2, h3, h4, h5⟩
    refine ⟨p.1, List.mem_range.mpr (Heap.lt_size h4), ?_⟩
    rw [if_pos ⟨h1, h2, h3⟩, h4]
    simp only [if_pos h5]
noncomputable def cellsFr (s : Shared) (n : Nat) : List Addr := (List.range s.heap.objs.size).filter fun a => decide (n ≤ a ∧ ∃ o v, s.heap.get? a = some o ∧ o.data = .cell v)
theorem mem_cellsFr {s : Shared} {n : Nat} {a : Addr} : a ∈ cellsFr s n ↔ n ≤ a ∧ ∃ o v, s.heap.get? a = some o ∧ o.data = .cell v := by
  unfold cellsFr
  rw [List.mem_filter, decide_eq_true_iff]
  exact ⟨fun h => h.2, fun h => ⟨List.mem_range.mpr (by obtain ⟨_, o, v, e, _⟩ := h; exact Heap.lt_size e), h⟩⟩
theorem funs_cut {s : Shared} {n : Nat} {base : Heap} : ∀ {l : List Env}, (∀ b ∈ frs l, b < n) → s.heap.FunFrames base l → (cut s n).heap.FunFrames base l
  | [], _, _ => trivial
  | e :: l, hb, h => by
    obtain ⟨hk, ⟨L, o, hf, hn, ho, hd⟩, hr⟩ := h
    have eL : L ∈ frs (e :: l) := by unfold frs; rw [List.filterMap_cons, hf]; exact List.mem_cons_self
    refine ⟨hk, ⟨L, o, hf, hn, (cut_get (hb L eL)).trans ho, hd⟩, funs_cut (fun b z => hb b ?_) hr⟩
    unfold frs
    rw [List.filterMap_cons, hf]
    exact List.mem_cons_of_mem _ z
/-- when a generator may be woken -/
structure Wk (P : Program) (w : World) (K : PySem.W.Frag) (mg : Str → Option Value) (base : Heap) (A : Around) (ou : List Env) (pv : List (Addr × Obj)) (s : Shared) (H : Hp) : Prop where
  env : Env0 P w K mg base A ou s H
  pv : ∀ p ∈ pv, s.heap.get? p.1 = some p.2 ∧ H p.1 = none
section
variable {X : Cx} {b0 : Bs} {ip : List (Addr × Obj)} {σ : L2.St} {H H2 : Hp} {s s2 : Shared} {ol : Obj} {A : Around}
theorem fs_low (I : Inv (rb X b0) ip σ H s) : ∀ b ∈ X.fs, b < X.env.locals := fun b hb => by
  obtain ⟨_, o, e, _⟩ := I.ok.funs.mem hb
  exact Nat.lt_of_lt_of_le (Heap.lt_size e) I.ok.above
noncomputable def nextB (n : Nat) (s : Shared) (H : Hp) (pv : List (Addr × Obj)) (m : Nat) : Bs := ⟨cut s n, cutH H n, pinsOf s H n pv, s, H, pv, m⟩
/-- woken in another heap -/
theorem rebase (I : Inv (rb X b0) ip σ H s) (hex : X.ex = []) (hcell : ∀ x c, X.env.cells.lookup x = some c → False) (hl : s.heap.get? X.env.locals = some ol) (hhi : ∀ q ∈ ip, X.env.locals ≤ q.1)
    (wk : Wk X.prog X.w X.K X.mg X.base A X.outer ((X.env.locals, ol) :: ip) s2 H2) (m : Nat) : Ri X (nextB X.env.locals s2 H2 ((X.env.locals, ol) :: ip) m) ip σ H2 s2 := by
  have n2 : X.env.locals < s2.heap.objs.size := Heap.lt_size (wk.pv _ List.mem_cons_self).1
  have n2' := Nat.le_of_lt n2
  have low := fs_low I
  have hexn : ∀ b, b ∉ X.ex := fun b z => by rw [hex] at z; exact nomatch z
  have bl : ∀ b o, X.base.get? b = some o → b < X.env.locals := fun b o e => Nat.lt_of_lt_of_le (Heap.lt_size e) (Nat.le_trans I.ok.bsz I.ok.above)
  have cH : ∀ {a}, a < X.env.locals → cutH H2 X.env.locals a = H2 a := fun h => if_pos h
  have cHs : ∀ {a u}, cutH H2 X.env.locals a = some u → H2 a = some u := fun {a u} h => by
    unfold cutH at h
    split at h
    · exact h
    · cases h
  refine ⟨⟨⟨I.ok.mod, I.ok.kind, I.ok.glob, I.ok.blt, ?_, I.ok.inj, I.ok.has, fun x c _ e => (hcell x c e).elim, I.ok.hd, I.ok.frames, I.ok.stk, I.ok.exf, fun b o e => ?_, ?_, fun b o _ => hexn b, fun b z => absurd z (hexn b), funs_cut low wk.env.funs, fun b hb => ?_⟩,
    rfl, wk.env.bare, ⟨fun b o e n _ _ => (cut_some n2' e).2, fun b o e n _ _ => ⟨o.slots, (cut_some n2' e).2⟩, fun b o e n _ => ?_, fun b o e _ => ⟨o, (cut_some n2' e).2⟩, fun b xs q => cHs q, fun b o u q => cHs q, fun b ps q => ⟨#[], by rw [cHs q]; simp⟩⟩, ?_,
    fun x c e => (hcell x c e).elim, (wk.pv _ List.mem_cons_self).2, fun x c e => (hcell x c e).elim, fun p hp => ?_, wk.env.hok, I.len⟩, fun p hp q hq z => ?_, hhi, ?_⟩
  · show (cut s2 X.env.locals).heap.objs.size ≤ X.env.locals
    rw [cut_size n2']; exact Nat.le_refl _
  · obtain ⟨y1, y2⟩ := wk.env.bs b o e
    exact ⟨(cut_get (bl b o e)).trans y1, (cH (bl b o e)).trans y2⟩
  · show X.base.objs.size ≤ (cut s2 X.env.locals).heap.objs.size
    rw [cut_size n2']
    exact Nat.le_trans I.ok.bsz I.ok.above
  · exact (cH (low b hb)).trans (wk.env.frf b hb)
  · exact (cH (cut_some n2' e).1).symm.trans n
  · obtain ⟨mm, hn, hv⟩ := I.loc
    refine ⟨mm, hn.at fun o e => ?_, fun i x v h1 h2 h3 => ?_⟩
    · rw [hl] at e; cases e
      exact (wk.pv _ List.mem_cons_self).1
    · obtain ⟨u, ru, lk⟩ := hv i x v h1 h2 h3
      refine ⟨u, ru, ?_⟩
      rcases lk with y | ⟨_, c, e, _⟩
      · exact .inl y
      · exact (hcell x c e).elim
  · rcases List.mem_append.mp hp with z | z
    · obtain ⟨y1, y2, y3, y4, y5⟩ := mem_pinsOf.mp z
      refine ⟨y4, y2, fun e => y3 _ List.mem_cons_self e.symm, fun e => ?_, y5⟩
      exact absurd (Nat.lt_of_lt_of_le (low _ e) y1) (Nat.lt_irrefl _)
    · obtain ⟨_, _, y3, y4, y5⟩ := I.pin p (List.mem_append_right _ z)
      obtain ⟨z1, z2⟩ := wk.pv p (List.mem_cons_of_mem _ z)
      exact ⟨z1, z2, y3, y4, y5⟩
  · obtain ⟨_, _, y3, _⟩ := mem_pinsOf.mp hp
    exact y3 q (List.mem_cons_of_mem _ hq) z.symm
  · exact ⟨cut_size n2', fun a h => cut_get h, fun a h => cH h, fun a o h1 h2 h3 h4 h5 => mem_pinsOf.mpr ⟨h1, h3, h4, h2, h5⟩, ⟨ol, List.mem_cons_self⟩, rfl⟩
/-- what a stretch did -/
structure Tnd (P : Program) (w : World) (ou : List Env) (n0 : Nat) (pv pv' : List (Addr × Obj)) (s : Shared) (H : Hp) (s' : Shared) (H' : Hp) : Prop where
  os : s'.os = s.os
  bare : AllBare s'.gens
  un : Un (frs ou) (pv.map (·.1) ++ cellsFr s n0) H H' s.heap s'.heap
  hok : HOk P w H' s'.heap
  own : ∀ p ∈ pv', s'.heap.get? p.1 = some p.2 ∧ H' p.1 = none ∧ n0 ≤ p.1 ∧ p.1 ∉ frs ou ∧ (p.1 ∈ pv.map (·.1) ++ cellsFr s n0 ∨ s.heap.get? p.1 = none) ∧ ∀ v, p.2.data ≠ .cell v
theorem obj_get {P : Program} {w : World} {H : Hp} {h : Heap} {a : Addr} {u : HO} (x : ObjOk P w H h a u) : ∃ o, h.get? a = some o := by
  induction u with
  | lst xs => obtain ⟨_, _, _, _, e⟩ := x; exact ⟨_, e⟩
  | tup xs => obtain ⟨_, _, _, p⟩ := x; obtain ⟨o, e, _⟩ := p; exact ⟨o, e⟩
  | dK kvs => obtain ⟨_, _, _, _, o, _, _, e, _⟩ := x; exact ⟨o, e⟩
  | dT kvs => obtain ⟨_, _, _, _, o, _, _, e, _⟩ := x; exact ⟨o, e⟩
  | set S n => obtain ⟨o, _, _, _, e, _⟩ := x; exact ⟨o, e⟩
  | ins C dx fs => obtain ⟨_, _, _, e, _⟩ := x; exact ⟨_, e⟩
  | own y => exact x
  | xd fs => obtain ⟨_, ⟨_, _, _, e, _⟩, _⟩ := x; exact ⟨_, e⟩
  | rng lo hi => obtain ⟨_, _, _, e⟩ := x; exact ⟨_, e⟩
  | frz o u ih => exact ⟨o, x.1⟩
  | tbl ps => exact ⟨_, x⟩
  | met f y => exact ⟨_, x⟩
  | ext φ => exact x.2.1
theorem tnd_of {b : Bs} (I : Ri X b ip σ H s) (hex : X.ex = []) (tm : Tame b.fH H) {pv' : List (Addr × Obj)}
    (hpv : pv' = [] ∨ ∃ o, s.heap.get? X.env.locals = some o ∧ pv' = (X.env.locals, o) :: ip) : Tnd X.prog X.w X.outer X.env.locals b.pv pv' b.full b.fH s H := by
  obtain ⟨J, off, hi, vb⟩ := I
  have low := fs_low J
  have hexn : ∀ b, b ∉ X.ex := fun b z => by rw [hex] at z; exact nomatch z
  have lows : ∀ {a o}, a < X.env.locals → b.full.heap.get? a = some o → b.s.heap.get? a = some o := fun h e => (vb.low _ h).trans e
  have pin : ∀ {a o}, X.env.locals ≤ a → b.full.heap.get? a = some o → b.fH a = none → a ∉ b.pv.map (·.1) ++ cellsFr b.full X.env.locals → s.heap.get? a = some o ∧ H a = none := fun {a o} h e n z => by
    have := J.pin (a, o) (List.mem_append_left _ (vb.pns a o h e n (fun p hp y => z (List.mem_append_left _ (List.mem_map.mpr ⟨p, hp, y⟩))) fun v y => z (List.mem_append_right _ (mem_cellsFr.mpr ⟨h, o, v, e, y⟩))))
    exact ⟨this.1, this.2.1⟩
  refine ⟨J.os.trans vb.os, J.bare, ⟨fun a o e n h1 h2 => ?_, fun a o e n h1 h2 => ?_, fun a o e n h2 => ?_, fun a o e h2 => ?_, tm.tups, tm.frzs, tm.tbls⟩, J.hok, fun p hp => ?_⟩
  · by_cases h : a < X.env.locals
    · exact J.base.keep a o (lows h e) ((vb.lowH a h).trans n) h1 (hexn a)
    · exact (pin (Nat.le_of_not_lt h) e n h2).1
  · have h := low a h1
    exact J.base.slot a o (lows h e) ((vb.lowH a h).trans n) h1 (hexn a)
  · by_cases h : a < X.env.locals
    · exact J.base.free a o (lows h e) ((vb.lowH a h).trans n) (hexn a)
    · exact (pin (Nat.le_of_not_lt h) e n h2).2
  · by_cases h : a < X.env.locals
    · exact J.base.there a o (lows h e) (hexn a)
    · cases n : b.fH a with
      | none => exact ⟨o, (pin (Nat.le_of_not_lt h) e n h2).1⟩
      | some u =>
        cases q : H a with
        | none => exact absurd q (tm.kept a (by rw [n]; exact fun z => by cases z))
        | some u' => exact obj_get (J.hok a u' q)
  · rcases hpv with z | ⟨ol, el, z⟩
    · rw [z] at hp; exact nomatch hp
    · rw [z] at hp
      rcases List.mem_cons.mp hp with y | y
      · rw [y]
        obtain ⟨o, ho⟩ := vb.loc
        exact ⟨el, J.free, Nat.le_refl _, fun e => absurd (low _ e) (Nat.lt_irrefl _), .inl (List.mem_append_left _ (List.mem_map.mpr ⟨_, ho, rfl⟩)), fun v q => by
          obtain ⟨mm, ⟨o2, _, _, e2, d2, _⟩, _⟩ := J.loc
          have e3 : s.heap.get? X.env.locals = some o2 := e2
          rw [el] at e3
          cases e3
          rw [d2] at q
          cases q⟩
      · obtain ⟨p1, p2, p3, p4, p5⟩ := J.pin p (List.mem_append_right _ y)
        refine ⟨p1, p2, hi p y, p4, ?_, p5⟩
        cases e : b.full.heap.get? p.1 with
        | none => exact .inr rfl
        | some o =>
          refine .inl ?_
          by_cases z : p.1 ∈ b.pv.map (·.1) ++ cellsFr b.full X.env.locals
          · exact z
          · exfalso
            cases n : b.fH p.1 with
            | none =>
              have := vb.pns p.1 o (hi p y) e n (fun q hq y => z (List.mem_append_left _ (List.mem_map.mpr ⟨q, hq, y⟩))) fun v y' => z (List.mem_append_right _ (mem_cellsFr.mpr ⟨hi p y, o, v, e, y'⟩))
              exact off _ this p y rfl
            | some u => exact tm.kept p.1 (by rw [n]; exact fun z => by cases z) p2
end
end
end Xk

set_option Elab.async false
set_option linter.all false
set_option maxRecDepth 100000
set_option maxHeartbeats 20000000
namespace Xk
open PySem PySem.Spec PyProof.Rows L2 GenW
theorem sg_mono {M : Model} {A : Around} {F F' : End → Shared → Prop} {c : Code} {tr : Sem PySem.Fin} {fs : List Frame} {s : Shared} (h : Sg M A F c tr fs s) (q : ∀ e s', F e s' → F' e s') : Sg M A F' c tr fs s := fun Γ p hc hw =>
  let ⟨e, s', r, z⟩ := h Γ p hc hw; ⟨e, s', r, q e s' z⟩
/-- its next stretch -/
def Step (M : Model) (A : Around) (F : End → Shared → Prop) (gs : GenState) (s : Shared) : Prop :=
  match gs with
  | .fresh c => Sg M A F c (M.den c) [] s
  | .suspended k _ c _ fs _ => Sg M A F c (k (.send .none)) fs s
  | _ => False
def Post (P : Program) (w : World) (ou : List Env) (n0 : Nat) (M : Mach) (nxt : Nat → M.S → List (Addr × Obj) → GenState → Prop) (i : Nat) (q : M.S) (pv : List (Addr × Obj)) (s : Shared) (H : Hp) (e : End) (s' : Shared) : Prop :=
  match e with
  | .ret r => r = .ok (.ret .none) ∧ i = M.n ∧ ∃ H', Same H H' ∧ Tnd P w ou n0 pv [] s H s' H'
  | .susp v g l k c p fs => g = false ∧ splitAtGen fs = none ∧ fs.any Frame.guarded = false ∧ ∃ x q' pv' H', RelV x v ∧ i < M.n ∧ M.Y i q H x q' H' ∧ Tnd P w ou n0 pv pv' s H s' H' ∧ nxt (i + 1) q' pv' (.suspended k l c p fs false)
/-- asleep, i items out: what it does for the next m - 1 times that it is woken -/
def RB (P : Program) (w : World) (K : PySem.W.Frag) (mg : Str → Option Value) (base : Heap) (A : Around) (ou : List Env) (n0 : Nat) (M : Mach) : Nat → Nat → M.S → List (Addr × Obj) → GenState → Prop
  | 0 => fun _ _ _ _ => True
  | m + 1 => fun i q pv gs => ∀ s H, Wk P w K mg base A ou pv s H → M.St i q H → Step (model P w) A (Post P w ou n0 M (RB P w K mg base A ou n0 M m) i q pv s H) gs s
/-- the stretches of a body -/
def famM (P : Program) (w : World) (K : PySem.W.Frag) (mg : Str → Option Value) (base : Heap) (A : Around) (ou : List Env) (n0 : Nat) (M : Mach) : Fam (Nat × M.S × Hp) := fun b u e s' =>
  u.2.2 = b.fH → Post P w ou n0 M (RB P w K mg base A ou n0 M b.m) u.1 u.2.1 b.pv b.full b.fH e s'
theorem vyl_M {X : Cx} {A : Around} {M : Mach} (hex : X.ex = []) (hcell : ∀ x c, X.env.cells.lookup x = some c → False) : VYl X A (famM X.prog X.w X.K X.mg X.base A X.outer X.env.locals M) M.ends.yl := by
  intro b u x v ip σ H s l k c p fs N rv I hy hsp hgu hk e
  obtain ⟨i, q, H0⟩ := u
  obtain ⟨q', hi, hY, hN⟩ := hy
  have e' : H0 = b.fH := e
  subst e'
  obtain ⟨mm, hn, _⟩ := I.inv.loc
  obtain ⟨ol, _, _, el, _⟩ := hn
  refine ⟨rfl, hsp, hgu, x, q', (X.env.locals, ol) :: ip, H, rv, hi, hY, tnd_of I hex (M.tame _ _ _ _ _ _ hY) (.inr ⟨ol, el, rfl⟩), ?_⟩
  cases hm : b.m with
  | zero => trivial
  | succ m =>
    intro s2 H2 wk st2
    exact sg_mono (hk (nextB X.env.locals s2 H2 ((X.env.locals, ol) :: ip) m) (i + 1, q', H2) s2 H2 (rebase I.inv hex hcell el I.hi wk m) (hN H2 st2)) fun e3 s3 z => z rfl
/-! ### the call of a generator def -/
structure VMade (P : Program) (w : World) (K : PySem.W.Frag) (mg : Str → Option Value) (base : Heap) (k : Nat) (ou : List Env) (t : Shared) (M : Mach) (q0 : M.S) (a : Addr) (n : Nat) (c : Code) (pv : List (Addr × Obj)) (t1 : Shared) : Prop where
  low : t.heap.objs.size ≤ a
  gen : t1.heap.IsGen a n
  num : n = t.gens.size
  gens : t1.gens = t.gens.push (.fresh c)
  os : t1.os = t.os
  kept : ∀ b o, t.heap.get? b = some o → t1.heap.get? b = some o
  own : ∀ p ∈ pv, t1.heap.get? p.1 = some p.2 ∧ t.heap.objs.size ≤ p.1 ∧ p.1 ≠ a ∧ ∀ v, p.2.data ≠ .cell v
  wake : ∀ (A : Around) (m : Nat), A.guards = some [] → Room k A → A.frames = some ou → RB P w K mg base A ou t.heap.objs.size M m 0 q0 pv (.fresh c)
abbrev SpV := List V → Hp → ((M : Mach) → M.S → Prop) → Prop
structure GFnV (P : Program) (w : World) (K : PySem.W.Frag) (mg : Str → Option Value) (B : Heap) (k : Nat) (f : Addr) (fd : FuncData) (ps : List Str) (sp : SpV) : Prop where
  cnt : ∀ vs H C, sp vs H C → vs.length = ps.length
  go : ∀ (A : Around) (ou : List Env) (t : Shared) (H : Hp) (ar : Args) (us : List Value) (vs : List V) (C : (M : Mach) → M.S → Prop), Room k A → Env0 P w K mg B A ou t H → BindsTo t fd ar (ps.zip us) → Vals vs us → sp vs H C →
    codeAny (model P w) A (.call (.ref f) ar) (fun r t1 => ∃ (a : Addr) (n : Nat) (c : Code) (pv : List (Addr × Obj)) (M : Mach) (q0 : M.S), r = .ok (.ret (.ref a)) ∧ C M q0 ∧ VMade P w K mg B k ou t M q0 a n c pv t1) t
theorem okGV {P : Program} {w : World} {K : PySem.W.Frag} {mg : Str → Option Value} {B : Heap} {x qual : Str} {st : Stmt} {f : Addr} {fd : FuncData} {N ps : List Str} {k : Nat} {sp : SpV} (F : Fun K x qual st f fd) (S : GScope N ps (defScope st)) (nc : ∀ n, cellsFrom n (defScope st).names [] = []) (cnt : ∀ vs H C, sp vs H C → vs.length = ps.length)
    (body : ∀ (vs : List V) (H : Hp) (C : (M : Mach) → M.S → Prop), sp vs H C → ∃ (M : Mach) (q0 : M.S), C M q0 ∧ ∀ (cdv : Value) (A : Around) (ou : List Env) (t : Shared) (E : XK), A.guards = some [] → Room k (A.deeper (envOfC qual (defScope st) t.heap.objs.size f cdv)) →
      ∃ r, GVs (Nat × M.S × Hp) (gcxOf P w K mg B N qual (defScope st) f cdv A ou t H E []).nox (defBody st) r ∧ ∀ H2, M.St 0 q0 H2 → r M.ends (0, q0, H2) (L2.start N vs) H2) : GFnV P w K mg B (k + 1) f fd ps sp := by
  refine ⟨cnt, fun A ou t H ar us vs C hr e0 bi r hsp => ?_⟩
  obtain ⟨oc, od, kV, doc, pm, an, cdv, ct, osl, rfl, lk, hcd⟩ := F.ex
  obtain ⟨M, q0, hC, hbody⟩ := body vs H C hsp
  have hl := cnt _ _ _ hsp
  have kin : K.In t.heap := e0.mod.kin.keeps fun b o e => (e0.bs b o e).1
  have lim := e0.mod.nolimit.keeps fun b o e => (e0.bs b o e).1
  have kinds : ∀ y ∈ ps.zip us, (defScope st).names.lookup y.1 = some .local ∨ ((defScope st).names.lookup y.1 = some .cell ∧ ((cellsFrom (t.heap.objs.size + 1) (defScope st).names []).lookup y.1).isSome = true) := fun y hy =>
    (S.par y.1 (List.of_mem_zip (a := y.1) (b := y.2) hy).1).imp id fun e => ⟨e, PySem.W.cellsFrom_some _ _ _ (.inl e)⟩
  refine codeAny_call_generator hr.depth (kin _ _ lk) rfl S.co S.gen rfl (PySem.W.codeRec_of kin hcd) (bi _ _ _ _ (wpAny_newFunctionEnv_cells S.kind kinds fun env he t1 x => ?_))
  subst he
  refine ⟨lim.keeps x.toInCall.keep, ?_⟩
  obtain ⟨h1, tk, es1, hk1⟩ := x.done
  have lt1 : t.heap.objs.size < t1.heap.objs.size := x.toInCall.ns.lt
  obtain ⟨ol, _, _, eol, eold, _⟩ := id x.toInCall.ns
  have main : ∀ (go : Obj) (nm qn : Value) (tk2 : Nat), go.cls = .type "generator" → go.data = .fields #[.int t1.gens.size 0, nm, qn] → go.slots = #[] → (∀ h : Heap, (h.push go).get? h.objs.size = some go) →
      ∃ (a : Addr) (n : Nat) (c : Code) (pv : List (Addr × Obj)) (M : Mach) (q0 : M.S), (Except.ok (Flow.ret (Value.ref t1.heap.objs.size)) : Result) = .ok (.ret (.ref a)) ∧ C M q0 ∧ VMade P w K mg B (k + 1) ou t M q0 a n c pv { t1 with gens := t1.gens.push (.fresh (.func (defBody st) (envOfC qual (defScope st) t.heap.objs.size f cdv))), toks := tk2, heap := t1.heap.push go } := by
    intro go nm qn tk2 gc gd gs gp
    refine ⟨t1.heap.objs.size, t1.gens.size, _, [(t.heap.objs.size, ol)], M, q0, rfl, hC, Nat.le_of_lt lt1, ⟨go, nm, qn, gp _, gc, gd, gs⟩, by rw [es1], by show t1.gens.push _ = _; rw [es1], by show t1.os = _; rw [es1], fun b o e => Heap.get?_push_of_some _ (x.toInCall.keep b o e), fun p hp => ?_, fun A2 m hG2 hr2 hf2 => ?_⟩
    · rw [List.mem_singleton.mp hp]
      exact ⟨Heap.get?_push_of_some _ eol, Nat.le_refl _, Nat.ne_of_lt lt1, fun v q => by
        have q' : ol.data = .cell v := q
        rw [eold] at q'
        cases q'⟩
    · cases m with
      | zero => trivial
      | succ m =>
        intro s2 H2 wk st2
        obtain ⟨tr, hb, hq⟩ := hbody cdv A2 ou t (fun _ _ _ => False) hG2 (hr2.deeper _)
        have e2 : Env0 P w K mg B A2 ou t H := ⟨hf2, e0.mod, e0.bs, e0.bsz, e0.funs, e0.frf, e0.hok, e0.bare⟩
        have J1 := inv_startG (E := fun _ _ _ => False) S hr2.hd e2 hl r x
        have J2 : Inv (rb (gcxOf P w K mg B N qual (defScope st) f cdv A2 ou t H (fun _ _ _ => False) []).nox ⟨t, H, [], t, H, [], 0⟩) [] (L2.start N vs) H t1 := J1.wish _
        have hcell : ∀ y c, (envOfC qual (defScope st) t.heap.objs.size f cdv).cells.lookup y = some c → False := fun y c e => by
          have e' : (cellsFrom (t.heap.objs.size + 1) (defScope st).names []).lookup y = some c := e
          rw [nc] at e'
          exact nomatch e'
        have R0 := rebase (X := (gcxOf P w K mg B N qual (defScope st) f cdv A2 ou t H (fun _ _ _ => False) []).nox) J2 rfl hcell eol (fun q hq => nomatch hq) wk m
        refine sg_func ?_
        refine sg_mono (F := famM P w K mg B A2 ou t.heap.objs.size M (nextB t.heap.objs.size s2 H2 [(t.heap.objs.size, ol)] m) (0, q0, H2)) ?_ fun e s' z => z rfl
        refine hb.run A2 (famM P w K mg B A2 ou t.heap.objs.size M) [] (nextB t.heap.objs.size s2 H2 [(t.heap.objs.size, ol)] m) (0, q0, H2) _ [] _ _ id id s2 (L2.start N vs) H2 M.ends ⟨over_func, rfl, rfl, rfl⟩ (vyl_M rfl hcell) (fun b u s' fl hs => ?_) R0 (hq H2 st2)
        cases fl with
        | next =>
          obtain ⟨σ', H', I', hn, hs⟩ := hs
          exact sg_end (.ok (.ret .none)) fun e => ⟨rfl, hn, H', e ▸ hs, tnd_of I' rfl (e ▸ Tame.of_same hs) (.inl rfl)⟩
        | brk => obtain ⟨_, _, _, z⟩ := hs; exact z.elim
        | cont => obtain ⟨_, _, _, z⟩ := hs; exact z.elim
        | ret v =>
          obtain ⟨y, σ', H', I', rv, ey, hn, hs⟩ := hs
          subst ey
          have ev : v = Value.none := rv
          subst ev
          exact sg_end (.ok (.ret .none)) fun e => ⟨rfl, hn, H', e ▸ hs, tnd_of I' rfl (e ▸ Tame.of_same hs) (.inl rfl)⟩
  exact main _ _ _ _ rfl rfl rfl fun h => Heap.get?_push_size _ rfl
end Xk

set_option Elab.async false
set_option linter.all false
set_option maxRecDepth 100000
set_option maxHeartbeats 20000000
namespace Xk
open PySem PySem.Spec PyProof.Rows L2 GenW
/-! ### woken once -/
theorem wpAny_wake {α : Type} {M : Model} {A : Around} {F : End → Shared → Prop} {g : Nat} {gs : GenState} {l : List Value} {k : GenResult → Sem α} {Q : α → Shared → Prop} {E : Value → Shared → Prop} {s : Shared} (hg : s.gens[g]? = some gs) (st : Step M A F gs (s.setGen g .running))
    (hq : ∀ e s1, F e s1 → e.quiet = true ∧ wpAny M A (k e.result) Q E (s1.setGen g e.genState)) : wpAny M A (.resume g (.send .none) l k) Q E s := by
  intro Γ p hΓ
  rw [Sem.wp_resume]
  cases gs with
  | fresh c =>
    obtain ⟨e, s1, r, z⟩ := st (Γ.wake c p) p rfl (hΓ.wake c p)
    obtain ⟨y1, y2⟩ := hq e s1 z
    exact ⟨_, _, by unfold Wakes; rw [hg]; exact ⟨e, s1, r, y1, rfl, rfl⟩, y2 Γ p hΓ⟩
  | suspended k₀ l₀ c₀ p₀ fs₀ cl =>
    obtain ⟨e, s1, r, z⟩ := st (Γ.wake c₀ p) p₀ rfl (hΓ.wake c₀ p)
    obtain ⟨y1, y2⟩ := hq e s1 z
    exact ⟨_, _, by unfold Wakes; rw [hg]; exact ⟨e, s1, r, y1, rfl, rfl⟩, y2 Γ p hΓ⟩
  | running => exact st.elim
  | finished => exact st.elim
/-- its number of turns: no item, and the heap may have grown; or an item -/
theorem next_v {P : Program} {w : World} {A : Around} {s : Shared} {F : End → Shared → Prop} {a : Addr} {g : Nat} {gs : GenState} {Q : Option Value → Shared → Prop} {E : Value → Shared → Prop} (hh : A.handled = none) (hl : s.heap.NoLimit) (hroom : A.depth < recursionLimit) (hg : s.heap.IsGen a g) (hgs : s.gens[g]? = some gs)
    (st : Step (model P w) A.in1 F gs (s.setGen g .running)) (hq : ∀ e s1, F e s1 → e.quiet = true)
    (hR : ∀ r s1, F (.ret r) s1 → r = .ok (.ret .none) ∧ ∀ h', (∀ b o, s1.heap.get? b = some o → h'.get? b = some o) → Q none { s1.setGen g .finished with heap := h' })
    (hY : ∀ v gd l k c p fs s1, F (.susp v gd l k c p fs) s1 → Q (some v) (s1.setGen g (.suspended k l c p fs (gd || fs.any Frame.guarded)))) : wpAny (model P w) A (pyNext (.ref a)) Q E s := by
  unfold pyNext
  refine wpAny_bind (wpAny_attempt (wpAny_callSpecial?_slot (name := Str.ofString "__next__") hg.typeIs slot_gen_next (wpAny_call_entry slot_gen_next hg.typeIs entry_gen_next ?_ (args_gen_next _))))
  show wpAny _ A.in1 (Builtin.Generator.genWake (.ref a) (.send .none)) _ _ s
  unfold Builtin.Generator.genWake
  refine wpAny_bind (wpAny_holding (wpAny_genNumber hg (wpAny_bind (wpAny_genState hgs ?_))))
  cases gs with
  | running => exact st.elim
  | finished => exact st.elim
  | _ =>
    refine wpAny_bind (wpAny_roomToWake hl hroom ?_)
    show wpAny _ A.in1 (.resume g (.send .none) [] _) _ _ s
    refine wpAny_wake hgs st fun e s1 z => ⟨hq e s1 z, ?_⟩
    cases e with
    | susp v gd l k c p fs => exact wpAny_pure ⟨v, rfl, wpAny_pure (hY v gd l k c p fs s1 z)⟩
    | ret r =>
      obtain ⟨er, hp⟩ := hR r s1 z
      subst er
      show wpAny _ A.in1 (newExc (.type "StopIteration") [] >>= _) _ _ (s1.setGen g .finished)
      refine wpAny_bind ?_
      simp only [newExc, newTuple]
      refine wpAny_bind (wpAny_newObj_type ?_ (by size_fits))
      refine wpAny_bind (m := firstArgMember _ _) (wpAny_of_eq (a := Value.none) (by first | rfl | (simp only [firstArgMember]; rfl)) ?_)
      refine wpAny_newObj_type ?_ (by size_fits)
      simp only [raiseNew]
      refine wpAny_bind (wpAny_bind (wpAny_handled ?_))
      first | rw [show A.in1.handled = none from hh] | rw [hh]
      refine wpAny_throw ?_
      refine wpAny_bind (wpAny_isInstance (T := "StopIteration") (b := true) ⟨_, Heap.get?_push_size _ rfl, rfl⟩ isSubtype_stop ?_)
      exact wpAny_pure (hp _ fun b o hb => Heap.get?_push_of_some _ (Heap.get?_push_of_some _ hb))
/-- a consumer's sleeping generator -/
structure Gn (X : Cx) (A : Around) (n0 : Nat) (M : Mach) (m i : Nat) (q : M.S) (pv : List (Addr × Obj)) (a : Addr) (n : Nat) (s : Shared) : Prop where
  gen : s.heap.IsGen a n
  gs : ∃ gs, s.gens[n]? = some gs ∧ PlainG gs ∧ RB X.prog X.w X.K X.mg X.base A X.stack n0 M m i q pv gs
  pv : ∀ p ∈ pv, s.heap.get? p.1 = some p.2 ∧ ∀ v, p.2.data ≠ .cell v
  low : X.env.locals < n0
  cells : ∀ x c, X.env.cells.lookup x = some c → c < n0
def GOff (X : Cx) (pins : List (Addr × Obj)) (H : Hp) (pv : List (Addr × Obj)) (a : Addr) : Prop := (∀ p ∈ pv, FpOk X pins H p.1 ∧ p.1 ≠ a) ∧ FpOk X pins H a
section
variable {X : Cx} {pins : List (Addr × Obj)} {σ : L2.St} {H : Hp} {s : Shared}
theorem inv_tnd {n0 : Nat} {pv pv' : List (Addr × Obj)} {s' : Shared} {H' : Hp} {a : Addr} {n : Nat} (I : Inv X pins σ H s) (hl : X.env.locals < n0) (hc : ∀ x c, X.env.cells.lookup x = some c → c < n0) (hg : s.heap.IsGen a n) (off : GOff X pins H pv a) (z : Tnd X.prog X.w X.stack n0 pv pv' s H s' H') :
    Inv X pins σ H' s' ∧ s'.heap.IsGen a n ∧ GOff X pins H' pv' a := by
  have hlow : X.s_0.heap.objs.size < n0 := Nat.lt_of_le_of_lt I.ok.above hl
  have nfs : ∀ b, n0 ≤ b → b ∉ X.fs := fun b hb hm => by
    obtain ⟨_, o, e, _⟩ := I.ok.funs.mem hm
    exact absurd (Nat.lt_of_lt_of_le (Nat.lt_trans (Heap.lt_size e) hlow) hb) (Nat.lt_irrefl _)
  have ch : ∀ b ∈ pv.map (·.1) ++ cellsFr s n0, (b ∈ X.ex ∨ X.s_0.heap.objs.size ≤ b) ∧ b ≠ X.env.locals ∧ (∀ x c, X.env.cells.lookup x = some c → c ≠ b) ∧ ∀ p ∈ X.pn ++ pins, p.1 ≠ b := fun b hb => by
    rcases List.mem_append.mp hb with y | y
    · obtain ⟨p, hp, rfl⟩ := List.mem_map.mp y
      obtain ⟨f, _⟩ := off.1 p hp
      exact ⟨f.2.2.2.1, f.2.1, f.2.2.2.2.1, f.2.2.2.2.2⟩
    · obtain ⟨y1, o, v, y2, y3⟩ := mem_cellsFr.mp y
      refine ⟨.inr (Nat.le_of_lt (Nat.lt_of_lt_of_le hlow y1)), Nat.ne_of_gt (Nat.lt_of_lt_of_le hl y1), fun x c e => Nat.ne_of_lt (Nat.lt_of_lt_of_le (hc x c e) y1), fun p hp e => ?_⟩
      obtain ⟨p1, _, _, _, p5⟩ := I.pin p hp
      rw [e, y2] at p1
      cases p1
      exact p5 v y3
  have I' : Inv X pins σ H' s' := I.call' z.os z.un z.hok z.bare ch
  obtain ⟨go, nm, qn, eg, gc, gd, gsl⟩ := hg
  have hga : a ∉ pv.map (·.1) ++ cellsFr s n0 := fun hb => by
    rcases List.mem_append.mp hb with y | y
    · obtain ⟨p, hp, e⟩ := List.mem_map.mp y
      exact (off.1 p hp).2 e
    · obtain ⟨_, o, v, y2, y3⟩ := mem_cellsFr.mp y
      rw [eg] at y2
      cases y2
      rw [gd] at y3
      cases y3
  obtain ⟨fa1, fa2, fa3, fa4, fa5, fa6⟩ := off.2
  have nst : a ∉ frs X.stack := fun hm => (List.mem_cons.mp (I.stkSub a hm)).elim fa2 fa3
  refine ⟨I', ⟨go, nm, qn, z.un.keep a go eg fa1 nst hga, gc, gd, gsl⟩, fun p hp => ?_, z.un.free a go eg fa1 hga, fa2, fa3, fa4, fa5, fa6⟩
  obtain ⟨p1, p2, p3, p4, p5, _⟩ := z.own p hp
  have sub : p.1 ≠ X.env.locals := Nat.ne_of_gt (Nat.lt_of_lt_of_le hl p3)
  refine ⟨⟨p2, sub, nfs _ p3, .inr (Nat.le_of_lt (Nat.lt_of_lt_of_le hlow p3)), fun x c e => Nat.ne_of_lt (Nat.lt_of_lt_of_le (hc x c e) p3), fun y hy e => ?_⟩, fun e => ?_⟩
  · rcases p5 with p5 | p5
    · exact (ch p.1 p5).2.2.2 y hy e
    · have := (I.pin y hy).1
      rw [e, p5] at this
      cases this
  · rcases p5 with p5 | p5
    · exact hga (e ▸ p5)
    · rw [e, eg] at p5; cases p5
/-- next(g), as its consumer sees it -/
def NextV (X : Cx) (pins : List (Addr × Obj)) (σ : L2.St) (A : Around) (n0 : Nat) (M : Mach) (m i : Nat) (q : M.S) (H : Hp) (a : Addr) (n : Nat) (r : Option Value) (s' : Shared) : Prop :=
  (r = none ∧ i = M.n ∧ ∃ H', Same H H' ∧ Inv X pins σ H' s') ∨
  ∃ v x q' pv' H', r = some v ∧ RelV x v ∧ i < M.n ∧ M.Y i q H x q' H' ∧ Inv X pins σ H' s' ∧ Gn X A n0 M m (i + 1) q' pv' a n s' ∧ GOff X pins H' pv' a ∧ ∃ k l c p fs cl, s'.gens[n]? = some (GenState.suspended k l c p fs cl)
theorem vnext {Ao : Around} {n0 : Nat} {M : Mach} {m i : Nat} {q : M.S} {pv : List (Addr × Obj)} {a : Addr} {n : Nat} {E : Value → Shared → Prop} (hh : Ao.handled = none) (hroom : Ao.depth < recursionLimit) (hf : Ao.frames = some X.stack) (I : Inv X pins σ H s) (G : Gn X Ao.in1 n0 M (m + 1) i q pv a n s) (off : GOff X pins H pv a) (st : M.St i q H) :
    wpAny (model X.prog X.w) Ao (pyNext (.ref a)) (NextV X pins σ Ao.in1 n0 M m i q H a n) E s := by
  obtain ⟨gs, hgs, hpl, hrb⟩ := G.gs
  have hlt : n < s.gens.size := (Array.getElem?_eq_some_iff.mp hgs).1
  have e0 := I.env0
  have wk : Wk X.prog X.w X.K X.mg X.base Ao.in1 X.stack pv (s.setGen n .running) H := ⟨⟨hf, e0.mod, e0.bs, e0.bsz, e0.funs, e0.frf, e0.hok, allBare_setGen e0.bare rfl⟩, fun p hp => ⟨(G.pv p hp).1, (off.1 p hp).1.1⟩⟩
  have I0 : Inv X pins σ H (s.setGen n .running) := Inv.gens I rfl rfl (allBare_setGen I.bare rfl)
  have sz : ∀ {s1 : Shared}, (n + 1) ≤ s1.gens.size → n < s1.gens.size := fun h => h
  refine wpAny_gsz (n := n + 1) hlt (next_v hh I.nolimit hroom G.gen hgs (hrb _ H wk st) (fun e s1 z => ?_) (fun r s1 z => ?_) fun v gd l k c p fs s1 z => ?_)
  · cases e with
    | ret r => rfl
    | susp v gd l k c p fs =>
      obtain ⟨z1, z2, z3, _⟩ := z
      show (!(gd || fs.any Frame.guarded)) = true
      rw [z1, z3]; rfl
  · obtain ⟨z1, z2, H', z3, z4⟩ := z
    refine ⟨z1, fun h' k _ => .inl ⟨rfl, z2, H', z3, ?_⟩⟩
    obtain ⟨I1, _, _⟩ := inv_tnd I0 G.low G.cells G.gen off z4
    have I2 : Inv X pins σ H' (s1.setGen n .finished) := Inv.gens I1 rfl rfl (allBare_setGen I1.bare rfl)
    exact I2.kept (t' := (s1.setGen n .finished).toks) k
  · obtain ⟨z1, z2, z3, x, q', pv', H', rv, hi, hY, hT, hN⟩ := z
    intro hsz
    obtain ⟨I1, g1, o1⟩ := inv_tnd I0 G.low G.cells G.gen off hT
    have eb : (gd || fs.any Frame.guarded) = false := by rw [z1, z3]; rfl
    rw [eb]
    have hz : n < s1.gens.size := by
      have : n + 1 ≤ (s1.setGen n (.suspended k l c p fs (gd || fs.any Frame.guarded))).gens.size := hsz
      rw [setGen_size] at this
      exact this
    exact .inr ⟨v, x, q', pv', H', rfl, rv, hi, hY, Inv.gens I1 rfl rfl (allBare_setGen I1.bare rfl), ⟨g1, ⟨_, setGen_at hz, fun _ _ _ _ _ _ y => by cases y; exact z2, hN⟩, fun p hp => ⟨(hT.own p hp).1, (hT.own p hp).2.2.2.2.2⟩, G.low, G.cells⟩, o1, _, _, _, _, _, _, setGen_at hz⟩
end
end Xk

set_option Elab.async false
set_option linter.all false
set_option maxRecDepth 100000
set_option maxHeartbeats 20000000
namespace Xk
open PySem PySem.Spec PyProof.Rows L2 GenW
/-- those that sleep sleep on -/
def Keeps (s s' : Shared) : Prop := ∀ (i : Nat) (k : Resume → Sem PySem.Fin) (l : List Value) (c : Code) (p : Pos) (fs : List Frame) (cl : Bool), s.gens[i]? = some (GenState.suspended k l c p fs cl) → s'.gens[i]? = some (GenState.suspended k l c p fs cl)
theorem Keeps.trans {s1 s2 s3 : Shared} (a : Keeps s1 s2) (b : Keeps s2 s3) : Keeps s1 s3 := fun i k l c p fs cl e => b i k l c p fs cl (a i k l c p fs cl e)
section
variable {X : Cx} {pins : List (Addr × Obj)} {σ : L2.St} {H : Hp} {s : Shared}
theorem sp_left {D : Ends} {f : Flow} {s' t' : Shared} (b : AllBare s.gens) (L : Left (fun _ => False) s t' s') (h : SP X.nox pins D f t') : SP X pins D f s' := by
  have fix : ∀ {σ H}, Inv X.nox pins σ H t' → Inv X pins σ H s' := fun I => Inv.gens I.unwish L.heap L.os (L.bare b I.bare)
  cases f with
  | next => obtain ⟨σ, H, I, q⟩ := h; exact ⟨σ, H, fix I, q⟩
  | brk => obtain ⟨σ, H, I, q⟩ := h; exact ⟨σ, H, fix I, q⟩
  | cont => obtain ⟨σ, H, I, q⟩ := h; exact ⟨σ, H, fix I, q⟩
  | ret r => obtain ⟨v, σ, H, I, r1, q⟩ := h; exact ⟨v, σ, H, fix I, r1, q⟩
theorem left_keeps {t' s' : Shared} (L : Left (fun _ => False) s t' s') : Keeps s s' := fun i k l c p fs cl e => L.stay i k l c p fs cl (fun z => z) e
/-- a body, while others sleep -/
theorem pss_lull {body : List Stmt} {tb : TS} {D : Ends} {E : Value → Shared → Prop} (hb : PSs X.nox body tb) (I : Inv X pins σ H s) (h : tb D σ H) : wpAny (model X.prog X.w) X.A (execs body X.env) (fun f s' => SP X pins D f s' ∧ Keeps s s') E s := by
  refine wpAny_mono (wpAny_lull (fun _ => False) (fun _ _ z => z.elim) (hb.run pins (lull (fun _ => False) s) σ H D (Inv.gens (I.wish _) rfl rfl (lull_bare I.bare)) h)) (fun f s' z => ?_) fun e s' z => ?_
  · obtain ⟨t', L, q⟩ := z
    exact ⟨sp_left I.bare L q, left_keeps L⟩
  · obtain ⟨_, _, z⟩ := z
    exact z.elim
theorem pg_lull {tg : Expr} {g : TG} {v : V} {u : Value} {Q : L2.St → Hp → Prop} {E : Value → Shared → Prop} (hg : PG X.nox tg g) (I : Inv X pins σ H s) (r : RelV v u) (h : g v σ H Q) :
    wpAny (model X.prog X.w) X.A (assign tg X.env u) (fun _ s' => (∃ σ' H', Inv X pins σ' H' s' ∧ Q σ' H') ∧ Keeps s s') E s := by
  refine wpAny_mono (wpAny_lull (fun _ => False) (fun _ _ z => z.elim) (hg.run pins (lull (fun _ => False) s) σ H v u Q (Inv.gens (I.wish _) rfl rfl (lull_bare I.bare)) r h)) (fun f s' z => ?_) fun e s' z => ?_
  · obtain ⟨t', L, σ', H', I', q⟩ := z
    exact ⟨⟨σ', H', Inv.gens I'.unwish L.heap L.os (L.bare I.bare I'.bare), q⟩, left_keeps L⟩
  · obtain ⟨_, _, z⟩ := z
    exact z.elim
/-! ### made by a call -/
abbrev TGV := L2.St → Hp → ((M : Mach) → M.S → Hp → Prop) → Prop
structure PGen (X : Cx) (e : Expr) (k : Nat) (t : TGV) : Prop where
  run : ∀ (pins : List (Addr × Obj)) (s : Shared) (σ : L2.St) (H : Hp) (C : (M : Mach) → M.S → Hp → Prop), Inv X pins σ H s → t σ H C →
    wpAny (model X.prog X.w) X.A (eval e X.env) (fun u s2 => ∃ (a : Addr) (n : Nat) (c : Code) (pv : List (Addr × Obj)) (M : Mach) (q0 : M.S) (H1 : Hp) (s1 : Shared), u = .ref a ∧ Inv X pins σ H1 s1 ∧ C M q0 H1 ∧ VMade X.prog X.w X.K X.mg X.base k X.stack s1 M q0 a n c pv s2) X.xe s
def tCallV (sp : SpV) (ta : TA) : TGV := fun σ H C => ta σ H fun vs H1 => sp vs H1 fun M q0 => C M q0 H1
theorem pgen_call {k : Nat} {f : Addr} {fd : FuncData} {ps : List Str} {sp : SpV} {x : Str} {p pos' : Pos} {e : Expr} {es : List Expr} {ta : TA} (F : GFnV X.prog X.w X.K X.mg X.base k f fd ps sp) (hr : Room k X.A) (hg : Gl X x) (hm : X.mg x = some (.ref f)) (hk : PySem.W.keepIn X.K (.ref f) = true) (hb : Binds X.K fd ps [])
    (ha : PA X (e :: es) ta) (hd1 : (x == ("__debug__" : Str)) = false := by decide) (he : starEach (e :: es) X.env = (false, eval e X.env) :: starEach es X.env := by rfl) (hpl : (backTo pos' (starEach es X.env)).any (·.1) = false := by rfl) :
    PGen X (.Call (.Name x p) (e :: es) [] pos') k (tCallV sp ta) := by
  refine ⟨fun pins s σ H C I z => wpAny_Call_Name_kw (ld_glob I hg hm ?_ hd1)⟩
  refine PySem.W.callWith_K (h₀ := X.base) I.ok.mod.kin hk (thn (ha.run pos' pins s σ H _ I z) fun us s1 ⟨vs, H1, J, r, q⟩ => ⟨J.kIn, ?_⟩) he hpl
  have hlen : us.length = ps.length := r.length ▸ F.cnt _ _ _ q
  have bd := hb s1 us J.kIn (by rw [List.append_nil]; exact hlen)
  rw [List.append_nil] at bd
  refine wpAny_call (codeAny_mono (F.go X.A X.stack s1 H1 ⟨us, []⟩ us vs _ hr J.env0 bd r q) fun r s2 y => ?_)
  obtain ⟨a, n, c, pv, M, q0, rfl, hC, V⟩ := y
  exact ⟨a, n, c, pv, M, q0, H1, s1, rfl, J, hC, V⟩
theorem gn_made {k n m : Nat} {a : Addr} {c : Code} {pv : List (Addr × Obj)} {M : Mach} {q0 : M.S} {s2 : Shared} {A : Around} (I : Inv X pins σ H s) (V : VMade X.prog X.w X.K X.mg X.base k X.stack s M q0 a n c pv s2) (hG : A.guards = some []) (hr : Room k A) (hf : A.frames = some X.stack) :
    Inv X pins σ H s2 ∧ Gn X A s.heap.objs.size M m 0 q0 pv a n s2 ∧ GOff X pins H pv a := by
  have hb2 : AllBare s2.gens := by rw [V.gens]; exact AllBare.push I.bare rfl
  refine ⟨I.call' (ch := []) V.os (Un.kept V.kept) (I.hok.kept V.kept) hb2 fun b z => by simp at z, ⟨V.gen, ⟨.fresh c, ?_, (fun k l c p fs cl y => by cases y), V.wake A m hG hr hf⟩, fun p hp => ⟨(V.own p hp).1, (V.own p hp).2.2.2⟩, I.lt, fun x c e => ?_⟩, fun p hp => ⟨I.fpOk (V.own p hp).2.1 (I.hok.fresh (V.own p hp).2.1), (V.own p hp).2.2.1⟩, I.fpOk V.low (I.hok.fresh V.low)⟩
  · rw [V.gens, V.num]; exact Array.getElem?_push_size ..
  · obtain ⟨v, q⟩ := I.cell x c e
    exact q.lt
theorem Gn.sus {A : Around} {n0 m i n : Nat} {M : Mach} {q : M.S} {pv : List (Addr × Obj)} {a : Addr} {k l c p fs cl} (G : Gn X A n0 M m i q pv a n s) (e : s.gens[n]? = some (GenState.suspended k l c p fs cl)) {s' : Shared} (hk : Keeps s s') (ho : ∀ b o, (b = a ∨ b ∈ pv.map (·.1)) → s.heap.get? b = some o → s'.heap.get? b = some o) : Gn X A n0 M m i q pv a n s' := by
  obtain ⟨gs, h1, h2, h3⟩ := G.gs
  rw [e] at h1
  cases h1
  obtain ⟨go, nm, qn, eg, r⟩ := G.gen
  exact ⟨⟨go, nm, qn, ho a go (.inl rfl) eg, r⟩, ⟨_, hk n _ _ _ _ _ _ e, h2, h3⟩, fun p hp => ⟨ho p.1 p.2 (.inr (List.mem_map.mpr ⟨p, hp, rfl⟩)) (G.pv p hp).1, (G.pv p hp).2⟩, G.low, G.cells⟩
end
/-! ### for x in g(..) -/
def tForV (t : TGV) (g : TG) (tb : TS) : TS := fun D σ H => t σ H fun M q0 H1 => ∃ Pv : Nat → M.S → L2.St → Hp → Prop, Pv 0 q0 σ H1 ∧ ∀ i q σ H, Pv i q σ H → i ≤ M.n ∧ M.St i q H ∧ (i = M.n → ∀ H', Same H H' → D.nx σ H') ∧
  (i < M.n → ∀ x q' H', M.Y i q H x q' H' → g x σ H' fun σ2 H2 => tb { D with nx := Pv (i + 1) q', ct := Pv (i + 1) q', bk := D.nx } σ2 H2)
section
variable {X : Cx}
theorem ps_forV {tg iter : Expr} {body : List Stmt} {k : Nat} {t : TGV} {g : TG} {tb : TS} {pos : Pos} (hc : X.calm = true) (hG : X.A.guards = some []) (hr : Room (k + 1) X.A) (hi : PGen X iter k t) (hg : PG X.nox tg g) (hb : PSs X.nox body tb)
    (hs : ∀ x, foldedSetIterable iter X.env x = pure x := by intro _; rfl) : PS X (.For tg iter body [] pos) (tForV t g tb) := by
  refine ⟨fun pins s σ H D I h => ?_⟩
  refine wpAny_For (thn (hi.run pins s σ H _ I h) fun u s1 h1 => ?_) hs
  obtain ⟨a, n, c, pv, M, q0, H1, s0, rfl, I0, ⟨Pv, p0, turn⟩, V⟩ := h1
  obtain ⟨I1, G1, o1⟩ := gn_made (m := M.n + 1) (A := X.A.in1) I0 V hG hr.in1 I0.ok.frames
  refine wpAny_pyIter_gen G1.gen ?_
  have hroom := hr.depth
  refine codeAny_forLoop_any (fun m s' => ∃ i q pv' σ' H', m = M.n + 1 - i ∧ Inv X pins σ' H' s' ∧ Gn X X.A.in1 s0.heap.objs.size M (M.n + 1 - i) i q pv' a n s' ∧ GOff X pins H' pv' a ∧ Pv i q σ' H') ?_ (M.n + 1) ⟨0, q0, pv, σ, H1, rfl, I1, G1, o1, p0⟩
  rintro m s2 ⟨i, q, pv2, σ2, H2, rfl, I2, G2, o2, p2⟩
  obtain ⟨hile, hst, hend, hgo⟩ := turn i q σ2 H2 p2
  rw [show M.n + 1 - i = (M.n - i) + 1 by omega] at G2 ⊢
  refine wpAny_mono (vnext (E := fun _ _ => False) (I2.ok.hd hc) hroom I2.ok.frames I2 G2 o2 hst) (fun r s3 h3 => ?_) fun _ _ z => z.elim
  rcases h3 with ⟨rfl, ei, H3, sm, I3⟩ | ⟨v, x, q', pv3, H3, rfl, rv, hlt, hY, I3, G3, o3, k3, l3, c3, p3, fs3, cl3, es3⟩
  · exact wpAny_execs_nil ⟨σ2, H3, I3, hend ei H3 sm⟩
  · obtain ⟨go, nm, qn, eg, gc, gd, gsl⟩ := id G3.gen
    refine go_of eg gc gd (by decide) ?_
    have I4 : Inv X (pins ++ pinsAt (a :: pv3.map (·.1)) s3.heap) σ2 H3 s3 := I3.pinned (fun b hb => ?_) fun b hb => ?_
    rotate_left
    · rcases List.mem_cons.mp hb with e | e
      · rw [e]; exact o3.2
      · obtain ⟨p, hp, rfl⟩ := List.mem_map.mp e
        exact (o3.1 p hp).1
    · rcases List.mem_cons.mp hb with e | e
      · rw [e]; exact ⟨go, eg, fun v z => by rw [gd] at z; cases z⟩
      · obtain ⟨p, hp, rfl⟩ := List.mem_map.mp e
        exact ⟨p.2, (G3.pv p hp).1, (G3.pv p hp).2⟩
    have stay : ∀ {s4 : Shared} {σ4 : L2.St} {H4 : Hp}, Inv X (pins ++ pinsAt (a :: pv3.map (·.1)) s3.heap) σ4 H4 s4 → Keeps s3 s4 → Gn X X.A.in1 s0.heap.objs.size M (M.n - i) (i + 1) q' pv3 a n s4 ∧ GOff X pins H4 pv3 a := fun {s4 σ4 H4} I4 kp => by
      have at_ : ∀ b o, (b = a ∨ b ∈ pv3.map (·.1)) → s3.heap.get? b = some o → s4.heap.get? b = some o ∧ H4 b = none := fun b o hb e => by
        have := I4.pin (b, o) (List.mem_append_right _ (List.mem_append_right _ (mem_pinsAt (List.mem_cons.mpr hb) e)))
        exact ⟨this.1, this.2.1⟩
      refine ⟨G3.sus es3 kp fun b o hb e => (at_ b o hb e).1, fun p hp => ⟨⟨(at_ p.1 p.2 (.inr (List.mem_map.mpr ⟨p, hp, rfl⟩)) (G3.pv p hp).1).2, (o3.1 p hp).1.2⟩, (o3.1 p hp).2⟩, (at_ a go (.inl rfl) eg).2, o3.2.2⟩
    refine wpAny_mono (pg_lull (E := fun _ _ => False) hg I4 rv (hgo hlt x q' H3 hY)) (fun _ s4 h4 => ?_) fun _ _ z => z.elim
    obtain ⟨⟨σ4, H4, J4, q4⟩, kp4⟩ := h4
    refine wpAny_mono (pss_lull (E := fun _ _ => False) hb J4 q4) (fun f s5 h5 => ?_) fun _ _ z => z.elim
    obtain ⟨h5, kp5⟩ := h5
    have again : ∀ {σ5 : L2.St} {H5 : Hp}, Inv X (pins ++ pinsAt (a :: pv3.map (·.1)) s3.heap) σ5 H5 s5 → Pv (i + 1) q' σ5 H5 → ∃ m, m < M.n - i + 1 ∧ ∃ j q pv' σ' H', m = M.n + 1 - j ∧ Inv X pins σ' H' s5 ∧ Gn X X.A.in1 s0.heap.objs.size M (M.n + 1 - j) j q pv' a n s5 ∧ GOff X pins H' pv' a ∧ Pv j q σ' H' := fun {σ5 H5} J5 p5 => by
      obtain ⟨z1, z2⟩ := stay J5 (kp4.trans kp5)
      refine ⟨M.n + 1 - (i + 1), by omega, i + 1, q', pv3, σ5, H5, rfl, J5.unpinned, ?_, z2, p5⟩
      rw [show M.n + 1 - (i + 1) = M.n - i by omega]
      exact z1
    cases f with
    | next => obtain ⟨σ5, H5, J5, q5⟩ := h5; exact again J5 q5
    | cont => obtain ⟨σ5, H5, J5, q5⟩ := h5; exact again J5 q5
    | brk => obtain ⟨σ5, H5, J5, q5⟩ := h5; exact ⟨σ5, H5, J5.unpinned, q5⟩
    | ret v5 => obtain ⟨x5, σ5, H5, J5, r5, q5⟩ := h5; exact ⟨x5, σ5, H5, J5.unpinned, r5, q5⟩
end
end Xk

set_option Elab.async false
set_option linter.all false
set_option maxRecDepth 100000
set_option maxHeartbeats 20000000
namespace Xk
open PySem PySem.Spec PyProof.Rows L2 GenW
/-! ### list(g(..)) -/
def tListV (t : TGV) : TE := fun σ H Q => t σ H fun M q0 H1 => M.n < sizeLine ∧ ∃ Pv : Nat → M.S → List V → Hp → Prop, Pv 0 q0 [] H1 ∧ ∀ i q ys H, Pv i q ys H → i ≤ M.n ∧ ys.length = i ∧ M.St i q H ∧
  (i = M.n → ∀ H' p, Same H H' → H' p = none → Q (.ref p) (upd H' p (.lst ys))) ∧ (i < M.n → ∀ x q' H', M.Y i q H x q' H' → Pv (i + 1) q' (ys ++ [x]) H')
section
variable {X : Cx} {pins : List (Addr × Obj)} {σ : L2.St}
/-- the list becomes known -/
theorem list_known {H : Hp} {s : Shared} {S : Addr} {ys : List V} {acc : Array Value} {c : Nat} (I : Inv X pins σ H s) (f : FpOk X pins H S) (hS : s.heap.get? S = some (lstObj acc c)) (rv : Vals ys acc.toList) (hl : ys.length ≤ sizeLine) : Inv X pins σ (upd H S (.lst ys)) s := by
  have hn : H S = none := f.1
  refine I.call' (ch := [S]) rfl ⟨fun b o q _ _ _ => q, fun b o q _ _ _ => ⟨o.slots, q⟩, fun b o q n hb => ?_, fun b o q _ => ⟨o, q⟩, fun b xs q => ?_, fun b o y q => ?_, fun b qs q => ⟨#[], ?_⟩⟩ (fun b u q => ?_) I.bare (fun b hb => ?_)
  · rw [upd_ne fun q => hb (by rw [q]; exact List.mem_singleton.mpr rfl)]; exact n
  · rw [upd_ne (ne_of_none q hn)]; exact q
  · rw [upd_ne (ne_of_none q hn)]; exact q
  · rw [upd_ne (ne_of_none q hn), q]; simp
  · by_cases hb : b = S
    · subst hb
      rw [upd_same] at q
      cases q
      exact ⟨hl, acc.toList, c, rv, by rw [hS]⟩
    · rw [upd_ne hb] at q
      exact (I.hok b u q).stay (fun _ _ _ z => z) (fun d z => by rw [upd_ne (ne_of_none z hn)]; exact z) fun d xs z => by rw [upd_ne (ne_of_none z hn)]; exact z
  · rw [List.mem_singleton.mp hb]
    exact ⟨f.2.2.2.1, f.2.1, f.2.2.2.2.1, f.2.2.2.2.2⟩
theorem drain_v {A : Around} {R : Result → Shared → Prop} {S a : Addr} {n n0 : Nat} {M : Mach} {res : Value} {Pv : Nat → M.S → List V → Hp → Prop} (hh : A.handled = none) (hd : A.in1.depth < recursionLimit) (hf : A.frames = some X.stack) (hz : M.n < sizeLine)
    (hP : ∀ i q ys H, Pv i q ys H → i ≤ M.n ∧ ys.length = i ∧ M.St i q H ∧ (i < M.n → ∀ x q' H', M.Y i q H x q' H' → Pv (i + 1) q' (ys ++ [x]) H'))
    (hend : ∀ (s : Shared) (H H' : Hp) (q : M.S) (ys : List V) (acc : Array Value) (c : Nat), Pv M.n q ys H → Same H H' → Inv X pins σ H' s → FpOk X pins H' S → s.heap.get? S = some (lstObj acc c) → Vals ys acc.toList → R (.ok (.ret res)) s) :
    ∀ (r i : Nat) (q : M.S) (pv : List (Addr × Obj)) (ys : List V) (s : Shared) (H : Hp) (acc : Array Value) (c : Nat), i + r = M.n → Inv X pins σ H s → FpOk X pins H S → Gn X A.in1.in1 n0 M (r + 1) i q pv a n s → GOff X pins H pv a → S ≠ a → (∀ p ∈ pv, p.1 ≠ S) →
      s.heap.get? S = some (lstObj acc c) → Vals ys acc.toList → Pv i q ys H → codeAny (model X.prog X.w) A (.builtin "list.extend.loop" ⟨[.ref S, .ref a, res], []⟩) R s := by
  intro r
  induction r with
  | zero =>
    intro i q pv ys s H acc c hr I fS G off hSa hSp hS rv p
    obtain ⟨_, _, hst, _⟩ := hP i q ys H p
    refine codeAny_builtin PySem.F.entry_extend_loop ?_
    rw [Around.under_plainId PySem.F.plain_extend_loop _]
    show wpAny _ A.in1 (pyNext (.ref a) >>= _) _ _ s
    have I' : Inv X (pins ++ [(S, lstObj acc c)]) σ H s := I.pins_of fun p hp => (List.mem_append.mp hp).elim (fun z => I.pin p (List.mem_append_right _ z)) fun z => by
      rw [List.mem_singleton.mp z]; exact ⟨hS, fS.1, fS.2.1, fS.2.2.1, fun v q => by cases q⟩
    have up : ∀ b, b ≠ S → FpOk X pins H b → FpOk X (pins ++ [(S, lstObj acc c)]) H b := fun b hb f => ⟨f.1, f.2.1, f.2.2.1, f.2.2.2.1, f.2.2.2.2.1, fun p hp => by
      rcases List.mem_append.mp hp with z | z
      · exact f.2.2.2.2.2 p (List.mem_append_left _ z)
      · rcases List.mem_append.mp z with z | z
        · exact f.2.2.2.2.2 p (List.mem_append_right _ z)
        · rw [List.mem_singleton.mp z]; exact Ne.symm hb⟩
    refine wpAny_bind (wpAny_mono (vnext (E := fun _ _ => False) hh hd hf I' G ⟨fun p hp => ⟨up _ (hSp p hp) (off.1 p hp).1, (off.1 p hp).2⟩, up _ (Ne.symm hSa) off.2⟩ hst) (fun r' s3 h3 => ?_) fun _ _ z => z.elim)
    rcases h3 with ⟨rfl, ei, H3, sm, I3⟩ | ⟨v, x, q', pv3, H3, rfl, rvx, hlt, hY, I3, G3, o3, _⟩
    · have pS := I3.pin (S, lstObj acc c) (List.mem_append_right _ (List.mem_append_right _ (List.mem_singleton.mpr rfl)))
      subst ei
      exact wpAny_pure (hend s3 H H3 q ys acc c p sm I3.unpinned ⟨pS.2.1, fS.2⟩ pS.1 rv)
    · exact absurd hlt (by omega)
  | succ r ih =>
    intro i q pv ys s H acc c hr I fS G off hSa hSp hS rv p
    obtain ⟨_, hyl, hst, hgo⟩ := hP i q ys H p
    refine codeAny_builtin PySem.F.entry_extend_loop ?_
    rw [Around.under_plainId PySem.F.plain_extend_loop _]
    show wpAny _ A.in1 (pyNext (.ref a) >>= _) _ _ s
    have I' : Inv X (pins ++ [(S, lstObj acc c)]) σ H s := I.pins_of fun p hp => (List.mem_append.mp hp).elim (fun z => I.pin p (List.mem_append_right _ z)) fun z => by
      rw [List.mem_singleton.mp z]; exact ⟨hS, fS.1, fS.2.1, fS.2.2.1, fun v q => by cases q⟩
    have up : ∀ b, b ≠ S → FpOk X pins H b → FpOk X (pins ++ [(S, lstObj acc c)]) H b := fun b hb f => ⟨f.1, f.2.1, f.2.2.1, f.2.2.2.1, f.2.2.2.2.1, fun p hp => by
      rcases List.mem_append.mp hp with z | z
      · exact f.2.2.2.2.2 p (List.mem_append_left _ z)
      · rcases List.mem_append.mp z with z | z
        · exact f.2.2.2.2.2 p (List.mem_append_right _ z)
        · rw [List.mem_singleton.mp z]; exact Ne.symm hb⟩
    have down : ∀ {H b}, FpOk X (pins ++ [(S, lstObj acc c)]) H b → FpOk X pins H b ∧ b ≠ S := fun {H b} f => ⟨⟨f.1, f.2.1, f.2.2.1, f.2.2.2.1, f.2.2.2.2.1, fun p hp => f.2.2.2.2.2 p (by
        rcases List.mem_append.mp hp with z | z
        · exact List.mem_append_left _ z
        · exact List.mem_append_right _ (List.mem_append_left _ z))⟩, fun e => f.2.2.2.2.2 (S, lstObj acc c) (List.mem_append_right _ (List.mem_append_right _ (List.mem_singleton.mpr rfl))) e.symm⟩
    refine wpAny_bind (wpAny_mono (vnext (E := fun _ _ => False) hh hd hf I' G ⟨fun p hp => ⟨up _ (hSp p hp) (off.1 p hp).1, (off.1 p hp).2⟩, up _ (Ne.symm hSa) off.2⟩ hst) (fun r' s3 h3 => ?_) fun _ _ z => z.elim)
    rcases h3 with ⟨rfl, ei, H3, sm, I3⟩ | ⟨v, x, q', pv3, H3, rfl, rvx, hlt, hY, I3, G3, o3, k3, l3, c3, p3, fs3, cl3, es3⟩
    · exact absurd ei (by omega)
    · have pS := I3.pin (S, lstObj acc c) (List.mem_append_right _ (List.mem_append_right _ (List.mem_singleton.mpr rfl)))
      have hS3 : s3.heap.get? S = some (lstObj acc c) := pS.1
      have fS3 : FpOk X pins H3 S := ⟨pS.2.1, fS.2⟩
      have hasz : acc.size = i := by
        have := rv.length
        rw [hyl] at this
        simpa using this.symm
      show wpAny _ A.in1 (updateSeq S (·.push v) >>= _) _ _ _
      refine wpAny_bind ?_
      refine wpAny_updateSeq hS3 rfl (wpAny_pure ⟨plainId_quiet PySem.F.plain_extend_loop _, ?_⟩) (by omega) (by show (acc.push _).size ≤ sizeLine + 1; rw [Array.size_push]; omega)
      have kp : ∀ b o, b ≠ S → s3.heap.get? b = some o → (s3.heap.update S (Obj.mapSeq (·.push v))).get? b = some o := fun b o hb e => (Heap.get?_update_other _ _ (Ne.symm hb)).trans e
      have I4 : Inv X pins σ H3 { s3 with heap := s3.heap.update S (Obj.mapSeq (·.push v)) } := I3.unpinned.turnedL (t' := s3.toks) (ch := [S]) (fun b o hb e => kp b o (fun z => hb (by rw [z]; exact List.mem_singleton.mpr rfl)) e) fun b hb => by rw [List.mem_singleton.mp hb]; exact fS3
      have offp : ∀ p ∈ pv3, FpOk X pins H3 p.1 ∧ p.1 ≠ S := fun p hp => down (o3.1 p hp).1
      have offa := down o3.2
      refine ih (i + 1) q' pv3 (ys ++ [x]) _ H3 (acc.push v) _ (by omega) I4 fS3 ?_ ⟨fun p hp => ⟨(offp p hp).1, (o3.1 p hp).2⟩, offa.1⟩ hSa (fun p hp => (offp p hp).2) (Heap.get?_update_self _ hS3 rfl) ?_ (hgo hlt x q' H3 hY)
      · refine G3.sus es3 (fun i k l c p fs cl e => e) fun b o hb e => kp b o (fun z => ?_) e
        rcases hb with y | y
        · exact hSa (z.symm.trans y)
        · obtain ⟨p, hp, e2⟩ := List.mem_map.mp y
          exact (offp p hp).2 (e2.trans z)
      · rw [Array.toList_push]
        exact rv.append (.cons rvx .nil)
theorem pe_listV {e : Expr} {k : Nat} {t : TGV} {nm : Str} {p2 pos : Pos} (hc : X.calm = true) (hG : X.A.guards = some []) (hr : Room (k + 3) X.A) (hi : PGen X e k t) (hl : Gl X nm) (hn : X.mg nm = none) (hv : bootBuiltins nm = some (.type "list")) (hnm : nm ≠ "__name__" := by decide) (hd2 : (nm == ("__debug__" : Str)) = false := by decide)
    (he2 : starEach [e] X.env = (false, eval e X.env) :: starEach [] X.env := by rfl) : PE X (.Call (.Name nm p2) [e] [] pos) (tListV t) := by
  refine ⟨fun pins s σ H Q I z => wpAny_Call_Name_kw (ld_blt I hl hn hv (PyProof.Rows.callWith_type1 ?_ he2 rfl) hnm hd2)⟩
  rw [he2]
  show wpAny _ _ (spliced ((false, eval e X.env) :: backTo pos (starEach [] X.env))) _ _ s
  refine Calls.spliced_cons ?_
  refine thn (hi.run pins s σ H _ I z) fun u s1 h1 => Calls.spliced_nil ?_
  obtain ⟨a, n, c, pv, M, q0, H1, s0, rfl, I0, ⟨hz, Pv, p0, turn⟩, V⟩ := h1
  obtain ⟨I1, G1, o1⟩ := gn_made (m := M.n + 1) (A := X.A.in1.in1.in1) I0 V hG hr.in1.in1.in1 I0.ok.frames
  have hroom := hr.depth
  obtain ⟨S, eS⟩ : ∃ S, S = s1.heap.objs.size := ⟨_, rfl⟩
  obtain ⟨lo, elo⟩ : ∃ lo : Obj, lo = { cls := .type "list", data := .seq #[] } := ⟨_, rfl⟩
  obtain ⟨go, nm1, qn, eg, gc, gd, gsl⟩ := id G1.gen
  have SA : S ≠ a := by rw [eS]; exact Nat.ne_of_gt (Heap.lt_size eg)
  have SP : ∀ p ∈ pv, p.1 ≠ S := fun p hp => by rw [eS]; exact Nat.ne_of_lt (Heap.lt_size (G1.pv p hp).1)
  refine callType_codes (Q₁ := fun x t2 => x = .ref S ∧ t2 = { s1 with heap := s1.heap.push lo }) PySem.F.called_list (PySem.F.typeCall_list_1 _) PySem.F.entry_list_init (code_list_new _ (by rw [eS, elo]; exact ⟨rfl, rfl⟩)) fun x t2 hx => ?_
  obtain ⟨rfl, rfl⟩ := hx
  have g0 : (s1.heap.push lo).get? S = some lo := by rw [eS]; exact Heap.get?_push_size _ (by rw [elo]; rfl)
  refine ⟨⟨lo, g0, by rw [elo]⟩, PySem.F.args_list_init_2 _ _, ?_⟩
  have k0 : ∀ b o, s1.heap.get? b = some o → (s1.heap.push lo).get? b = some o := fun b o e => Heap.get?_push_of_some _ e
  have step : ∀ (hp : Heap) (f : Obj → Obj), (∀ b o, s1.heap.get? b = some o → hp.get? b = some o) → ∀ b o, s1.heap.get? b = some o → (hp.update S f).get? b = some o := fun hp f q b o e =>
    (Heap.get?_update_other _ _ (by rw [eS]; exact Nat.ne_of_gt (Heap.lt_size e))).trans (q b o e)
  have isG : ∀ {t2 : Shared}, (∀ b o, s1.heap.get? b = some o → t2.heap.get? b = some o) → t2.heap.IsGen a n := fun q => G1.gen.keeps q
  show wpAny _ _ (Builtin.List.listItems (.ref S) >>= fun old => Builtin.List.listUpdate (.ref S) (fun _ => #[]) >>= fun _ => letGo old.toList.reverse >>= fun _ => Builtin.List.listExtendWith (.ref S) (.ref a) .none) _ _ _
  have d0 : lo.data = .seq #[] := by rw [elo]
  unfold Builtin.List.listItems
  refine wpAny_bind (wpAny_bind (wpAny_seqItems g0 d0 (wpAny_pure (wpAny_bind ?_))))
  show wpAny _ _ (updateSeq S fun _ => #[]) _ _ _
  refine wpAny_updateSeq g0 d0 (wpAny_bind (wpAny_letGo ?_))
  have g1 := Heap.get?_update_self (Obj.mapSeq fun _ => (#[] : Array Value)) g0 (by rw [elo]; rfl)
  have k1 := step _ (Obj.mapSeq fun _ => (#[] : Array Value)) k0
  have d1 : (lo.mapSeq fun _ => (#[] : Array Value)).data = .seq #[] := by rw [elo]; rfl
  unfold Builtin.List.listExtendWith
  refine wpAny_bind (wpAny_typeOf (Heap.IsGen.typeIs (s := { s1 with heap := _ }) (isG k1)) ?_)
  rw [if_neg (by show ¬ ((Builtin.List.listSameRef (.ref S) (.ref a) || Value.type "generator" == Value.type "list") || Value.type "generator" == Value.type "tuple") = true; simp [Builtin.List.listSameRef, SA])]
  refine wpAny_bind (wpAny_pyIter_gen (s := { s1 with heap := _ }) (isG k1) (wpAny_bind (wpAny_holding ?_)))
  unfold Builtin.List.listLengthHint
  refine wpAny_bind (wpAny_specialOf (Heap.IsGen.typeIs (s := { s1 with heap := _ }) (isG k1)) PySem.F.gen_no_len ?_)
  refine wpAny_bind (m := specialOf (.ref a) (Str.ofString "__length_hint__")) (wpAny_specialOf (Heap.IsGen.typeIs (s := { s1 with heap := _ }) (isG k1)) PySem.F.gen_no_hint (wpAny_pure (wpAny_bind (m := rule "list.extend.makes-room") (wpAny_rule (wpAny_bind (m := Builtin.List.listTouch (.ref S)) ?_)))))
  have u2 := Heap.get?_update_self (Obj.mapSeq (·.push Value.none)) g1 (by rw [elo]; rfl)
  show wpAny _ _ (updateSeq S (·.push .none) >>= fun _ => updateSeq S (·.pop)) _ _ _
  refine wpAny_bind (wpAny_updateSeq g1 d1 (wpAny_updateSeq (hz := by seq_fits) u2 (by rw [elo]; rfl) (wpAny_pure ⟨plainId_quiet PySem.F.plain_extend_loop _, ?_⟩)))
  have k2 := step _ (Obj.mapSeq (·.pop)) (step _ (Obj.mapSeq (·.push Value.none)) k1)
  have g2 := Heap.get?_update_self (Obj.mapSeq (·.pop)) u2 (by rw [elo]; rfl)
  have g3 : ∃ c, (((s1.heap.push lo).update S (Obj.mapSeq fun _ => (#[] : Array Value))).update S (Obj.mapSeq (·.push Value.none)) |>.update S (Obj.mapSeq (·.pop))).get? S = some (lstObj #[] c) := by
    rw [elo] at g2 ⊢
    exact ⟨_, g2⟩
  obtain ⟨c2, g3⟩ := g3
  have key : ∀ (h : Heap) (c : Nat), (∀ b o, s1.heap.get? b = some o → h.get? b = some o) → h.get? S = some (lstObj #[] c) →
      codeAny (model X.prog X.w) X.A.in1 (.builtin "list.extend.loop" ⟨[.ref S, .ref a, .none], []⟩) (wants (fun r s₂ => r = Value.none ∧ EP X pins σ Q (Value.ref S) s₂) X.xe) { s1 with heap := h } := by
    intro h c hk hS
    have I2 : Inv X pins σ H1 { s1 with heap := h } := I1.kept (t' := s1.toks) hk
    have fS : FpOk X pins H1 S := I1.fpOk (by rw [eS]; exact Nat.le_refl _) (I1.hok.fresh (by rw [eS]; exact Nat.le_refl _))
    refine drain_v (A := X.A.in1) (S := S) (a := a) (n := n) (n0 := s0.heap.objs.size) (M := M) (Pv := Pv) (I2.ok.hd hc) hroom I2.ok.frames hz (fun i q ys H p => ?_) (fun s4 H4 H5 q ys acc c4 p4 sm I4 f4 hS4 rv4 => ?_) M.n 0 q0 pv [] _ H1 #[] c (Nat.zero_add _) I2 fS ?_ o1 SA SP hS .nil p0
    · obtain ⟨z1, z2, z3, z4, z5⟩ := turn i q ys H p
      exact ⟨z1, z2, z3, z5⟩
    · obtain ⟨z1, z2, z3, z4, z5⟩ := turn M.n q ys H4 p4
      exact ⟨rfl, .ref S, upd H5 S (.lst ys), list_known I4 f4 hS4 rv4 (by omega), rfl, z4 rfl H5 S sm f4.1⟩
    · obtain ⟨gs, y1, y2, y3⟩ := G1.gs
      exact ⟨isG (t2 := { s1 with heap := h }) hk, ⟨gs, y1, y2, y3⟩, fun p hp => ⟨hk _ _ (G1.pv p hp).1, (G1.pv p hp).2⟩, G1.low, G1.cells⟩
  exact key _ _ k2 g3
end
end Xk

set_option Elab.async false
set_option linter.all false
set_option maxRecDepth 100000
set_option maxHeartbeats 20000000
namespace Xk
open PySem PySem.Spec PyProof.Rows L2 GenW
section
variable {X : Cx}
/-- g(k=e, ..) -/
theorem pgen_callK0 {k : Nat} {f : Addr} {fd : FuncData} {ps ks : List Str} {sp : SpV} {x : Str} {p pos : Pos} {kws : List Keyword} {tk : TA} {ff : List Value → List Value → List Value} {fV : List V → List V → List V} (F : GFnV X.prog X.w X.K X.mg X.base k f fd ps sp) (hr : Room k X.A) (hg : Gl X x) (hm : X.mg x = some (.ref f)) (hk : PySem.W.keepIn X.K (.ref f) = true) (bi : KBinds X.K fd ps ks ff fV)
    (hkw : PK X kws tk) (hdb : (x == ("__debug__" : Str)) = false := by decide)
    (all' : (backToKw pos (keywordEach kws X.env)).all (·.1.isSome) = true := by rfl) (nms : (backToKw pos (keywordEach kws X.env)).filterMap (·.1) = ks := by rfl)
    (hpl : ((backTo pos (starEach [] X.env)).any (·.1) || (backToKw pos (keywordEach kws X.env)).any (·.1.isNone)) = false := by rfl) :
    PGen X (.Call (.Name x p) [] kws pos) k (tCallV (fun vs H C => sp (fV [] vs) H C) tk) := by
  subst nms
  refine ⟨fun pins s σ H C I z => wpAny_Call_Name_kw (ld_glob I hg hm (PySem.W.callWith_KW0 (h₀ := X.base) I.ok.mod.kin hk all' (thn (hkw.run pos pins s σ H _ I z) fun ws s1 ⟨zs, H1, J, rz, q⟩ => ⟨J.kIn, ?_⟩) hpl) hdb)⟩
  have r2 := bi.rel .nil rz
  have bd := bi.to s1 [] ws J.kIn (by rw [← r2.length]; exact F.cnt _ _ _ q)
  refine wpAny_call (codeAny_mono (F.go X.A X.stack s1 H1 _ _ _ _ hr J.env0 bd r2 q) fun r s2 y => ?_)
  obtain ⟨a, n, c, pv, M, q0, rfl, hC, V⟩ := y
  exact ⟨a, n, c, pv, M, q0, H1, s1, rfl, J, hC, V⟩
/-- by either of two ways -/
def tEitherS (t u : TS) : TS := fun D σ H => t D σ H ∨ u D σ H
theorem ps_either {st : Stmt} {t u : TS} (a : PS X st t) (b : PS X st u) : PS X st (tEitherS t u) := ⟨fun pins s σ H D I z => z.elim (a.run pins s σ H D I) (b.run pins s σ H D I)⟩
/-- for x in g(..), which raises at its first item -/
def tForX (K : PySem.W.Frag) (sp : SpX) (W : WX) (t : TA) : TS := fun D σ H => t σ H fun vs H1 => sp vs H1 fun cls d H' => NoSt K cls ∧ W cls d σ H'
theorem ps_forX {W : WX} {k : Nat} {f : Addr} {fd : FuncData} {ps : List Str} {sp : SpX} {x : Str} {p pos pos' : Pos} {e : Expr} {es : List Expr} {t : TA} {tg : Expr} {body : List Stmt} (F : GFnX X.prog X.w X.K X.mg X.base k f fd ps sp) (hpo : PassesOwn (model X.prog X.w) X.A X.env X.xe) (hG : X.A.guards = some []) (hr : Room (k + 1) X.A) (hg : Gl X x) (hm : X.mg x = some (.ref f)) (hk : PySem.W.keepIn X.K (.ref f) = true) (hb : Binds X.K fd ps []) (tk : L2N.Takes X W)
    (ha : PA X (e :: es) t) (hd1 : (x == ("__debug__" : Str)) = false := by decide) (he : starEach (e :: es) X.env = (false, eval e X.env) :: starEach es X.env := by rfl) (hpl : (backTo pos' (starEach es X.env)).any (·.1) = false := by rfl)
    (hs : ∀ y, foldedSetIterable (.Call (.Name x p) (e :: es) [] pos') X.env y = pure y := by intro _; rfl) : PS X (.For tg (.Call (.Name x p) (e :: es) [] pos') body [] pos) (tForX X.K sp W t) := by
  refine ⟨fun pins s σ H D I z => ?_⟩
  refine wpAny_For (thn (Q := fun u s1 => ∃ H1 sc, Inv X pins σ H1 sc ∧ ∃ E : XK, (∀ c d H', E c d H' → NoSt X.K c ∧ W c d σ H') ∧ GMadeX X.prog X.w k X.stack H1 sc E u s1) (wpAny_Call_Name_kw (ld_glob I hg hm ?_ hd1)) fun u s1 ⟨H1, sc, J, E, hE, a, n, c, eu, M⟩ => ?_) hs
  · refine PySem.W.callWith_K (h₀ := X.base) I.ok.mod.kin hk (thn (ha.run pos' pins s σ H _ I z) fun us s1 ⟨vs, H1, J, r, q⟩ => ⟨J.kIn, ?_⟩) he hpl
    have hlen : us.length = ps.length := r.length ▸ F.cnt _ _ _ q
    have bd := hb s1 us J.kIn (by rw [List.append_nil]; exact hlen)
    rw [List.append_nil] at bd
    refine wpAny_call (codeAny_mono (F.go X.A X.stack s1 H1 ⟨us, []⟩ us vs _ (hr.mono (by omega)) J.env0 bd r q) fun r s2 y => ?_)
    match r, y with
    | .ok (.ret u), y => exact ⟨H1, s1, J, _, fun c d H' h => h, y⟩
    | .error _, y => exact y.elim
    | .ok .next, y => exact y.elim
    | .ok .brk, y => exact y.elim
    | .ok .cont, y => exact y.elim
  · subst eu
    refine wpAny_pyIter_gen M.gen ?_
    refine codeAny_forLoop_any (fun m s' => s' = s1) ?_ 0 rfl
    rintro m s2 rfl
    refine wpAny_passesOwn hpo (M.next hr hG J.ok.frames (fun _ _ h => h) rfl rfl fun e2 s2 y => ?_)
    exact ⟨notStopN (fun c d H' h => (hE c d H' h).1) (stays_in J y) y, tk _ _ (L2N.XE.of_call J (fun c d H' h => (hE c d H' h).2) (cx_fin y))⟩
end
section
variable {U : Type} {D : VEnds U} {u : U} {σ : L2.St} {H : Hp}
theorem r_vthen {t v : TV U} (h : t ⟨fun u' σ' H' => v D u' σ' H', D.rt, D.bk, D.ct, D.yl⟩ u σ H) : tVThen t v D u σ H := h
theorem r_vplain {t : TS} (h : t ⟨D.nx u, D.rt u, D.bk u, D.ct u⟩ σ H) : tPlainV t D u σ H := h
theorem r_v0 (h : D.nx u σ H) : tV0 D u σ H := h
theorem r_vyield {te : TE} (h : te σ H fun x H1 => D.yl u x H1 fun u' H2 => D.nx u' σ H2) : tVYield te D u σ H := h
theorem r_vif {tc : TT} {t v : TV U} (h : tc σ H fun d H1 => if d = true then t D u σ H1 else v D u σ H1) : tVIf tc t v D u σ H := h
theorem r_vfor {wi : TI} {g : TG} {tb : TV U} (h : wi σ H fun J H1 => ∃ W : Nat → Nat → U → L2.St → Hp → Prop, (∃ m, W 0 m u σ H1) ∧ ∀ i m u σ H, W i m u σ H →
  (J.stop i H ∧ D.nx u σ H) ∨ (J.go i H ∧ ∃ N : U → L2.St → Hp → Prop, (∀ u' σ' H', N u' σ' H' → ∃ m', m' < m ∧ W (i + 1) m' u' σ' H') ∧ ∀ x H', J.yld i H x H' → g x σ H' fun σ2 H2 => tb ⟨N, D.rt, D.nx, N, D.yl⟩ u σ2 H2)) : tVFor wi g tb D u σ H := h
/-- a generator's turns over what is walked -/
theorem vforI {J : It} {n : Nat} {G : Hp → Prop} {Y : Nat → Hp → V → Hp → Prop} (w : Walk J n G Y) {g : TG} {tb : TV U} {nx : U → L2.St → Hp → Prop} {rt : U → VK} {yl : U → V → Hp → (U → Hp → Prop) → Prop} (Pv : Nat → U → L2.St → Hp → Prop) (h0 : Pv 0 u σ H) (hG : ∀ i u σ H, i ≤ n → Pv i u σ H → G H)
    (hs : ∀ i x u σ H H', i < n → Pv i u σ H → Y i H x H' → g x σ H' fun σ2 H2 => tb ⟨Pv (i + 1), rt, nx, Pv (i + 1), yl⟩ u σ2 H2) (hd : ∀ u σ H, Pv n u σ H → nx u σ H) :
    ∃ W : Nat → Nat → U → L2.St → Hp → Prop, (∃ m, W 0 m u σ H) ∧ ∀ i m u σ H, W i m u σ H →
      (J.stop i H ∧ nx u σ H) ∨ (J.go i H ∧ ∃ N : U → L2.St → Hp → Prop, (∀ u' σ' H', N u' σ' H' → ∃ m', m' < m ∧ W (i + 1) m' u' σ' H') ∧ ∀ x H', J.yld i H x H' → g x σ H' fun σ2 H2 => tb ⟨N, rt, nx, N, yl⟩ u σ2 H2) := by
  refine ⟨fun i m u σ H => i + m = n ∧ Pv i u σ H, ⟨n, Nat.zero_add n, h0⟩, fun i m u σ H ⟨e, p⟩ => ?_⟩
  cases m with
  | zero =>
    have e' : i = n := e
    subst e'
    exact .inl ⟨w.stops _ (hG _ u σ H (Nat.le_refl _) p), hd _ _ _ p⟩
  | succ m =>
    refine .inr ⟨w.goes i H (by omega) (hG i u σ H (by omega) p), Pv (i + 1), fun u' σ' H' q => ⟨m, Nat.lt_succ_self m, by omega, q⟩, fun x H' y => ?_⟩
    exact hs i x u σ H H' (by omega) p (w.yields i H x H' (by omega) (hG i u σ H (by omega) p) y)
theorem vforA {J : It} {G : Hp → Prop} {xs : List V} (w : Walk J xs.length G (YAt xs)) {g : TG} {tb : TV U} {nx : U → L2.St → Hp → Prop} {rt : U → VK} {yl : U → V → Hp → (U → Hp → Prop) → Prop} (Pv : Nat → U → L2.St → Hp → Prop) (h0 : Pv 0 u σ H) (hG : ∀ i u σ H, i ≤ xs.length → Pv i u σ H → G H)
    (hs : ∀ i u σ H (hi : i < xs.length), Pv i u σ H → g xs[i] σ H fun σ2 H2 => tb ⟨Pv (i + 1), rt, nx, Pv (i + 1), yl⟩ u σ2 H2) (hd : ∀ u σ H, Pv xs.length u σ H → nx u σ H) :
    ∃ W : Nat → Nat → U → L2.St → Hp → Prop, (∃ m, W 0 m u σ H) ∧ ∀ i m u σ H, W i m u σ H →
      (J.stop i H ∧ nx u σ H) ∨ (J.go i H ∧ ∃ N : U → L2.St → Hp → Prop, (∀ u' σ' H', N u' σ' H' → ∃ m', m' < m ∧ W (i + 1) m' u' σ' H') ∧ ∀ x H', J.yld i H x H' → g x σ H' fun σ2 H2 => tb ⟨N, rt, nx, N, yl⟩ u σ2 H2) :=
  vforI w Pv h0 hG (fun i x u σ H H' hi p y => by
    obtain ⟨rfl, e⟩ := y
    rw [List.getElem?_eq_getElem hi] at e
    cases e
    exact hs i u σ H' hi p) hd
end
section
variable {K : PySem.W.Frag} {D : Ends} {σ : L2.St} {H : Hp} {Q : VK} {t : TGV} {sp : SpX} {W : WX} {ta : TA} {spv : SpV} {C : (M : Mach) → M.S → Hp → Prop}
theorem r_forX (h : ta σ H fun vs H1 => sp vs H1 fun cls d H' => NoSt K cls ∧ W cls d σ H') : tForX K sp W ta D σ H := h
theorem r_forV {g : TG} {tb : TS} (h : t σ H fun M q0 H1 => ∃ Pv : Nat → M.S → L2.St → Hp → Prop, Pv 0 q0 σ H1 ∧ ∀ i q σ H, Pv i q σ H → i ≤ M.n ∧ M.St i q H ∧ (i = M.n → ∀ H', Same H H' → D.nx σ H') ∧
  (i < M.n → ∀ x q' H', M.Y i q H x q' H' → g x σ H' fun σ2 H2 => tb ⟨Pv (i + 1) q', D.rt, D.nx, Pv (i + 1) q'⟩ σ2 H2)) : tForV t g tb D σ H := h
theorem r_listV (h : t σ H fun M q0 H1 => M.n < sizeLine ∧ ∃ Pv : Nat → M.S → List V → Hp → Prop, Pv 0 q0 [] H1 ∧ ∀ i q ys H, Pv i q ys H → i ≤ M.n ∧ ys.length = i ∧ M.St i q H ∧
  (i = M.n → ∀ H' p, Same H H' → H' p = none → Q (.ref p) (upd H' p (.lst ys))) ∧ (i < M.n → ∀ x q' H', M.Y i q H x q' H' → Pv (i + 1) q' (ys ++ [x]) H')) : tListV t σ H Q := h
theorem r_callV (h : ta σ H fun vs H1 => spv vs H1 fun M q0 => C M q0 H1) : tCallV spv ta σ H C := h
end
section
variable {X : Cx} {W : WX} {k : Nat} {f : Addr} {fd : FuncData} {ps : List Str} {sp : SpX} {x nm : Str} {p p2 pos pos' : Pos} {e : Expr} {es : List Expr} {t : TA} {tg : Expr} {body : List Stmt}
theorem pe_listXK (K : PySem.W.Frag) (F : GFnX X.prog X.w X.K X.mg X.base k f fd ps sp) (hG : X.A.guards = some []) (hr : Room (k + 3) X.A) (hg : Gl X x) (hm : X.mg x = some (.ref f)) (hk : PySem.W.keepIn X.K (.ref f) = true) (hb : Binds X.K fd ps []) (tk : L2N.Takes X W)
    (ha : PA X (e :: es) t) (hl : Gl X nm) (hn : X.mg nm = none) (hv : bootBuiltins nm = some (.type "list")) (hK : X.K = K := by rfl) (hnm : nm ≠ "__name__" := by decide) (hd1 : (x == ("__debug__" : Str)) = false := by decide) (hd2 : (nm == ("__debug__" : Str)) = false := by decide)
    (he : starEach (e :: es) X.env = (false, eval e X.env) :: starEach es X.env := by rfl) (hpl : (backTo pos' (starEach es X.env)).any (·.1) = false := by rfl)
    (he2 : starEach [.Call (.Name x p) (e :: es) [] pos'] X.env = (false, eval (.Call (.Name x p) (e :: es) [] pos') X.env) :: starEach [] X.env := by rfl) :
    PE X (.Call (.Name nm p2) [.Call (.Name x p) (e :: es) [] pos'] [] pos) (tListX K sp W t) := hK ▸ pe_listX F hG hr hg hm hk hb tk ha hl hn hv hnm hd1 hd2 he hpl he2
theorem ps_forXK (K : PySem.W.Frag) (F : GFnX X.prog X.w X.K X.mg X.base k f fd ps sp) (hpo : PassesOwn (model X.prog X.w) X.A X.env X.xe) (hG : X.A.guards = some []) (hr : Room (k + 1) X.A) (hg : Gl X x) (hm : X.mg x = some (.ref f)) (hk : PySem.W.keepIn X.K (.ref f) = true) (hb : Binds X.K fd ps []) (tk : L2N.Takes X W)
    (ha : PA X (e :: es) t) (hK : X.K = K := by rfl) (hd1 : (x == ("__debug__" : Str)) = false := by decide) (he : starEach (e :: es) X.env = (false, eval e X.env) :: starEach es X.env := by rfl) (hpl : (backTo pos' (starEach es X.env)).any (·.1) = false := by rfl)
    (hs : ∀ y, foldedSetIterable (.Call (.Name x p) (e :: es) [] pos') X.env y = pure y := by intro _; rfl) : PS X (.For tg (.Call (.Name x p) (e :: es) [] pos') body [] pos) (tForX K sp W t) := hK ▸ ps_forX F hpo hG hr hg hm hk hb tk ha hd1 he hpl hs
end
end Xk
local macro_rules | `(tactic| fail "ww1") => `(tactic| with_reducible first | refine Xk.r_vthen ?_ | refine Xk.r_vplain ?_ | refine Xk.r_v0 ?_ | refine Xk.r_vyield ?_ | refine Xk.r_vif ?_ | refine Xk.r_vfor ?_ | refine Xk.r_forX ?_ | refine Xk.r_forV ?_ | refine Xk.r_listV ?_ | refine Xk.r_callV ?_)
local macro_rules | `(tactic| fail "one") => `(tactic| with_reducible first | refine Xk.r_vthen ?_ | refine Xk.r_vplain ?_ | refine Xk.r_v0 ?_ | refine Xk.r_vyield ?_ | refine Xk.r_vif ?_ | refine Xk.r_vfor ?_ | refine Xk.r_forX ?_ | refine Xk.r_forV ?_ | refine Xk.r_listV ?_ | refine Xk.r_callV ?_)

set_option Elab.async false
set_option linter.all false
set_option maxRecDepth 100000
set_option maxHeartbeats 20000000
namespace Xk
open PySem PySem.Spec PyProof.Rows L2
/-! ### exceptions that are made and kept, not raised -/
/-- at a: an exception of the class at D, whose value is v -/
def Exn (H : Hp) (a D : Addr) (v : V) : Prop := ∃ dd : Addr, H a = some (exo a D (some dd)) ∧ H dd = some (exd dd [(("value" : Str), v)])
theorem Exn.same {H H' : Hp} {a D : Addr} {v : V} (h : Exn H a D v) (s : Same H H') : Exn H' a D v := let ⟨dd, h1, h2⟩ := h; ⟨dd, s _ _ h1, s _ _ h2⟩
section
variable {X : Cx} {pins : List (Addr × Obj)} {σ : L2.St} {H : Hp} {s : Shared}
theorem exn_inst {a D : Addr} {v : V} (I : Inv X pins σ H s) (h : Exn H a D v) :
    ∃ (oe od : Obj) (mA : Str → Option Value), PySem.W.InstAt s.heap a oe D (some od) ∧ (∀ name, PySem.W.lookIn name od = some (mA name)) ∧ ∀ f, RelO (([(("value" : Str), v)] : List (Str × V)).lookup f) (mA f) := by
  obtain ⟨dd, h1, h2⟩ := h
  obtain ⟨t1, e⟩ := exo_at I.hok h1
  obtain ⟨mA, hns, hr⟩ := exd_at I.hok h2
  obtain ⟨od, ho, hl⟩ := lookIn_ns hns
  exact ⟨_, od, mA, ⟨e, rfl, rfl, ho⟩, hl, hr⟩
/-- isinstance(e, c) -/
def rIsO (K : PySem.W.Frag) : List V → Hp → VK → Prop := fun xs H Q => ∃ (a D : Addr) (v c : V) (cv : Value) (b : Bool), xs = [.ref a, c] ∧ Exn H a D v ∧ (∀ u, RelV c u → u = cv) ∧ ExcC K D ∧ PySem.W.kitOne K (.ref D) cv = some b ∧ Q (.bl b) H
theorem call_isO : CallR X (.builtin "isinstance") (rIsO X.K) := by
  intro pins s σ H xs us Q I rel ⟨a, D, v, c, cv, b, ex, he, hcv, T, kit, k⟩
  subst ex
  obtain ⟨u0, u1, rfl, r0, r1⟩ : ∃ u0 u1, us = [u0, u1] ∧ RelV (.ref a) u0 ∧ RelV c u1 := by
    match us, rel with
    | [_, _], .cons r0 (.cons r1 .nil) => exact ⟨_, _, rfl, r0, r1⟩
  obtain rfl : u0 = Value.ref a := r0
  obtain rfl := hcv _ r1
  obtain ⟨oe, od, mA, inst, hl, hr⟩ := exn_inst I he
  have is_ : (PySem.W.clsIn X.K D).isSome = true := by
    obtain ⟨cd, hc, _⟩ := PySem.W.any_some T.hd
    rw [hc]; rfl
  exact PySem.W.kia_one (PySem.W.kitx_exc is_ T.hg T.hk T.hs T.ha T.hn T.ht T.hm) I.kIn inst kit (fun z => nomatch z) fun tk => ⟨.bl b, H, I.kept (t' := tk) fun _ _ g => g, rfl, k⟩
theorem isOK (K : PySem.W.Frag) (hK : X.K = K := by rfl) : CallR X (.builtin "isinstance") (rIsO K) := hK ▸ call_isO
/-- e.value -/
def tXfO (K : PySem.W.Frag) (te : TE) : TE := fun σ H Q => te σ H fun x H1 => ∃ (a D : Addr) (v : V), x = .ref a ∧ Exn H1 a D v ∧ XfC K D ∧ PySem.W.findIn K (.ref D) "value" = some none ∧ Q v H1
theorem pe_xfO {e : Expr} {te : TE} {pos : Pos} (he : PE X e te) (hb : attributeBase e "value" X.env (eval e X.env) = eval e X.env := by rfl) : PE X (.Attribute e "value" pos) (tXfO X.K te) := by
  refine ⟨fun pins s σ H Q I z => attr_of hb (thn (he.run pins s σ H _ I z) fun u s1 ⟨x, H1, J, rx, a, D, v, ex, hx, T, hno, k⟩ => ?_)⟩
  subst ex
  obtain rfl : u = Value.ref a := rx
  obtain ⟨oe, od, mA, inst, hl, hr⟩ := exn_inst J hx
  obtain ⟨u, hu, ru⟩ := RelO.some_of (v := v) (o := mA "value") (hr "value")
  exact HandSPX.exc_get J.kIn inst T.ga T.gg T.exC (PySem.W.findObj_own T.hdC hno rfl (by rw [hl, hu])) (handed_of ru) ⟨v, H1, J.tok _, ru, k⟩
theorem pe_xfOK (K : PySem.W.Frag) {e : Expr} {te : TE} {pos : Pos} (he : PE X e te) (hK : X.K = K := by rfl) (hb : attributeBase e "value" X.env (eval e X.env) = eval e X.env := by rfl) : PE X (.Attribute e "value" pos) (tXfO K te) := hK ▸ pe_xfO he hb
end
/-- C(e): the exception, a new one, and its dict -/
def tMkX (C : Addr) (ta : TA) : TE := fun σ H Q => ta σ H fun vs H1 => ∃ y, vs = [y] ∧ ∀ (a : Addr) (H2 : Hp), H1 a = none → Same H1 H2 → Exn H2 a C y → Q (.ref a) H2
section
variable {X : Cx} {x : Str} {S C fI : Addr} {k : Nat} {fd : FuncData} {e : Expr} {ta : TA} {p pos : Pos}
def KeptEnd (X : Cx) (pins : List (Addr × Obj)) (σ : L2.St) (Q : VK) (a : Addr) (r : Result) (s' : Shared) : Prop :=
  match r with | .ok (.ret v) => v = .none ∧ EP X pins σ Q (.ref a) s' | .ok _ => False | .error e => X.xe e s'
/-- what the __init__ leaves -/
theorem mk_kept {pins : List (Addr × Obj)} {σ : L2.St} {H1 : Hp} {s : Shared} {y : V} {Q : VK} {a : Addr} (J2 : Inv X pins σ (upd H1 a (exo a C none)) s) (free : H1 a = none)
    (q : ∀ (a : Addr) (H2 : Hp), H1 a = none → Same H1 H2 → Exn H2 a C y → Q (.ref a) H2) {r : Result} {s' : Shared}
    (z : CR L2.CX0 X.stack X.prog X.w (upd H1 a (exo a C none)) s (fun v H2 => v = .non ∧ ∃ d, H1 d = none ∧ d ≠ a ∧ H2 = upd (upd (upd H1 a (exo a C none)) d (exd d [(("value" : Str), y)])) a (exo a C (some d))) (fun _ _ _ => False) r s') :
    KeptEnd X pins σ Q a r s' := by
  match r, z with
  | .error _, z => exact z.elim
  | .ok .next, z => exact z.elim
  | .ok .brk, z => exact z.elim
  | .ok .cont, z => exact z.elim
  | .ok (.ret v), z =>
    obtain ⟨x2, H2, J3, rv, ex, d, hd, ne, eH⟩ := J2.after z
    subst ex
    refine ⟨rv, .ref a, H2, J3, rfl, q a H2 free (fun b o g => ?_) ⟨d, by rw [eH]; exact upd_same, by rw [eH, upd_ne ne]; exact upd_same⟩⟩
    have hb : b ≠ a := ne_of_none g free
    have hd' : b ≠ d := ne_of_none g hd
    rw [eH, upd_ne hb, upd_ne hd', upd_ne hb]
    exact g
theorem pe_mkX (T : ErrC X.K X.mg x S C fI) (F1 : FnOk X.prog X.w X.K X.mg X.base L2.CX0 k fI fd ["self", "value"] (spIni X.K C)) (hr : Room (k + 1) X.A) (hb : Binds X.K fd ["self", "value"] []) (hg : Gl X x) (ha : PA X [e] ta)
    (hdb : (x == ("__debug__" : Str)) = false := by decide) (he : starEach (e :: []) X.env = (false, eval e X.env) :: starEach [] X.env := by rfl) (hpl : (backTo pos (starEach [] X.env)).any (·.1) = false := by rfl) :
    PE X (.Call (.Name x p) [e] [] pos) (tMkX C ta) := by
  refine ⟨fun pins s σ H Q I z => ?_⟩
  obtain ⟨_, _, _, _, bm, _, _, _, _, _, _, _, _, _, _, look, refs⟩ := T.ox.cls
  refine wpAny_Call_Name_kw (ld_glob I hg T.gC (PySem.W.callWith_K (h₀ := X.base) I.ok.mod.kin T.ox.kC ?_ he hpl) hdb)
  refine thn (ha.run pos pins s σ H _ I z) fun us ⟨hp, gn, dr, tk, os⟩ ⟨vs, H1, J, rel, y, hy, q⟩ => ⟨J.kIn, ?_⟩
  subst hy
  obtain ⟨u, rfl, ry⟩ := rel.one
  show wpAny (model X.prog X.w) X.A (PySem.call (.ref C) [u]) _ _ _
  have grow : ∀ b o, hp.get? b = some o → ((hp.push (PySem.W.kdv_tup [u])).push (PySem.HandSPX.excO C hp.objs.size)).get? b = some o := fun b o g => Heap.get?_push_of_some _ (Heap.get?_push_of_some _ g)
  have here : ((hp.push (PySem.W.kdv_tup [u])).push (PySem.HandSPX.excO C hp.objs.size)).get? (hp.objs.size + 1) = some (PySem.HandSPX.excO C hp.objs.size) := by heap_get
  obtain ⟨a, ea⟩ : ∃ a, a = hp.objs.size + 1 := ⟨_, rfl⟩
  have above : hp.objs.size ≤ a := by omega
  have free : H1 a = none := J.hok.fresh above
  rw [← ea] at here
  have J2 : Inv X pins σ (upd H1 a (exo a C none)) ⟨(hp.push (PySem.W.kdv_tup [u])).push (PySem.HandSPX.excO C hp.objs.size), gn, dr, tk, os⟩ := J.laid (t' := tk) (o := exo a C none) grow above (exo_ok here)
  have vals : Vals [V.ref a, y] [Value.ref a, u] := .cons rfl (.cons ry .nil)
  have pr : spIni X.K C [V.ref a, y] (upd H1 a (exo a C none)) (fun v H2 => v = .non ∧ ∃ d, H1 d = none ∧ d ≠ a ∧ H2 = upd (upd (upd H1 a (exo a C none)) d (exd d [(("value" : Str), y)])) a (exo a C (some d))) (fun _ _ _ => False) :=
    ⟨a, y, rfl, T.ox, T.no, upd_same, fun d hd ne => ⟨rfl, d, by rw [upd_ne ne] at hd; exact hd, ne, rfl⟩⟩
  have bd := hb _ [Value.ref a, u] J2.kIn rfl
  refine wpAny_call (PySem.HandSPX.call_own F.excBase_ValueError (fun Y => PySem.HandSPX.refsVE_contains Y bm refs) (J.kIn _ _ look) (PySem.W.looks_findIn J.kIn T.iC) (fun self => PySem.W.bind_fn J.kIn self T.tI) (by show 1 ≤ 16777216; decide) ?_)
  rw [← ea]
  refine codeAny_mono (F1.run _ X.stack _ _ ⟨[Value.ref a, u], []⟩ [Value.ref a, u] _ _ (fun _ _ _ => False) (hr.make C [u] []) (J2.env0.make C [u] []) bd vals pr) fun r s' res => ?_
  have key : KeptEnd X pins σ Q a r s' := mk_kept J2 free q res
  revert key
  cases r with
  | error _ => exact id
  | ok fl => cases fl <;> exact id
end
/-! ### C(k = e) of such a class -/
section
variable {M : Model} {A : Around} {E : Value → Shared → Prop} {h : Heap} {g : Array GenState} {d : Drawn} {t : Nat} {os : OsState}
variable {nm q : Str} {C N : Addr} {bs bm bmB : List Value} {hdct : Bool} {sn : List Str} {sub : List Value} {ab : Bool} {col : Option Bool} {dd : Option Addr} {k0 k1 k2 k3 k5 : Option Value} {B newId initId : String}
theorem kw_check_new (F : ExcBaseFacts B newId initId bmB) (hT : ∀ X : String, bm.contains (.type X) = bmB.contains (.type X)) {kw : List (Str × Value)} {Q : Unit → Shared → Prop}
    (hC : h.get? C = some (excClassObj nm q C N bs bm hdct sn sub ab col dd k0 k1 k2 k3 k5 newId)) (hq : Q () ⟨h, g, d, t, os⟩) : wpAny M A (checkBuiltinCall newId ⟨[.ref C], kw⟩) Q E ⟨h, g, d, t, os⟩ := by
  have c1 : (Value.ref C :: bm).contains (.type B) = true := by rw [List.contains_cons, hT, F.hasB, Bool.or_true]
  have c2 := F.noStar
  simp only [checkBuiltinCall, F.newKind, F.newSplit, F.newRow]
  repeat (first | refine wpAny_loadPart_at hC ?_ | (refine wpAny_isSubtype_exc hC ?_; rw [c1]) | refine wpAny_staticBase_exc hC ?_ | refine wpAny_madeBy_exc hC ?_ | simp only [bne_self_eq_false, Bool.false_eq_true, if_false] | wp_step)
  exact hq
end
section
variable {A : Around} {E : Value → Shared → Prop} {h : Heap} {g : Array GenState} {d : Drawn} {t : Nat} {os : OsState}
variable {nm q : Str} {C N : Addr} {bs bm bmB : List Value} {hdct : Bool} {sn : List Str} {sub : List Value} {ab : Bool} {col : Option Bool} {dd : Option Addr} {k0 k1 k2 k3 k5 : Option Value} {B newId initId : String}
theorem kw_check_call {M : Model} {kw : List (Str × Value)} {Q : Unit → Shared → Prop} (hC : h.get? C = some (excClassObj nm q C N bs bm hdct sn sub ab col dd k0 k1 k2 k3 k5 newId))
    (hq : Q () ⟨h, g, d, t, os⟩) : wpAny M A (checkBuiltinCall "type.__call__" ⟨[.ref C], kw⟩) Q E ⟨h, g, d, t, os⟩ := by
  have f3 := tc_sub
  have hT : (⟨h, g, d, t, os⟩ : Shared).TypeIs (.ref C) "type" := ⟨_, hC, rfl⟩
  simp only [checkBuiltinCall, tc_kind, tc_split]
  repeat (any_goals (first | assumption | with_reducible refine wpAny_loadPart_at hC ?_ | with_reducible refine wpAny_onRaise ?_ | with_reducible refine wpAny_map ?_ | wp_step))
end
section
variable {prog : Program} {w : World} {A : Around} {E : Value → Shared → Prop} {R : Result → Shared → Prop} {h : Heap} {g : Array GenState} {d : Drawn} {t : Nat} {os : OsState}
variable {nm q : Str} {C N : Addr} {bs bm bmB : List Value} {hdct : Bool} {sn : List Str} {sub : List Value} {ab : Bool} {col : Option Bool} {dd : Option Addr} {k0 k1 k2 k3 k5 : Option Value} {B newId initId : String}
theorem kw_new (F : ExcBaseFacts B newId initId bmB) (hT : ∀ X : String, bm.contains (.type X) = bmB.contains (.type X)) {kw : List (Str × Value)}
    (hC : h.get? C = some (excClassObj nm q C N bs bm hdct sn sub ab col dd k0 k1 k2 k3 k5 newId))
    (hq : R (.ok (.ret (.ref (h.objs.size + 1)))) ⟨(h.push (W.kdv_tup [])).push (HandSPX.excO C h.objs.size), g, d, t, os⟩) : codeAny (model prog w) A (.builtin newId ⟨[.ref C], kw⟩) R ⟨h, g, d, t, os⟩ := by
  have he := F.ends
  have c1 : (Value.ref C :: bm).contains (.type B) = true := by rw [List.contains_cons, hT, F.hasB, Bool.or_true]
  have c2 : (Value.ref C :: bm).contains (.type "AttributeError") = false := by rw [List.contains_cons, hT, F.noAttr]; rfl
  have c3 : (Value.ref C :: bm).contains (.type "NameError") = false := by rw [List.contains_cons, hT, F.noName]; rfl
  refine codeAny_builtinAt F.entry ?_
  unfold Builtin.«BaseException.__new__»
  refine PySem.wpAt_bind ?_
  show PySem.wpAt _ _ _ (stack >>= _) _ _ _
  refine PySem.wpAt_bind (PySem.wpAt_stack fun p below => PySem.wpAt_of_wpAny ?_)
  wp_walk
  refine PySem.wpAt_of_wpAny ?_
  rw [F.owner]
  repeat (first | with_reducible refine wpAny_madeHere_exc F.canon hC ?_ | with_reducible refine wpAny_loadPart_at hC ?_ | (with_reducible refine wpAny_isSubtype_exc hC ?_; first | rw [c1] | rw [c2] | rw [c3]) | wp_step)
  show R _ _
  rw [Heap.size_push]
  exact hq
theorem kw_type_call (F : ExcBaseFacts B newId initId bmB) (hT : ∀ X : String, bm.contains (.type X) = bmB.contains (.type X)) {kw : List (Str × Value)} {fI : Addr} {Q : PySem.Fin → Shared → Prop}
    (hC : h.get? C = some (excClassObj nm q C N bs bm hdct sn sub ab col dd k0 k1 k2 k3 k5 newId))
    (hi : W.Looks (model prog w) h (typeLookup (.ref C) "__init__") (some (.ref fI))) (hb : ∀ self, W.Looks (model prog w) h (bindSpecial (.ref fI) self) (.ref fI, [self]))
    (hq : codeAny (model prog w) A (.call (.ref fI) ⟨[.ref (h.objs.size + 1)], kw⟩)
      (fun r s' => match r with | .ok (.ret v) => v = .none ∧ Q (.done (.ret (.ref (h.objs.size + 1)))) s' | .ok _ => False | .error e => E e s')
      ⟨(h.push (W.kdv_tup [])).push (HandSPX.excO C h.objs.size), g, d, t, os⟩) :
    wpAny (model prog w) A (Builtin.«type.__call__» ⟨[.ref C], kw⟩) Q E ⟨h, g, d, t, os⟩ := by
  repeat (first | with_reducible refine wpAny_loadPart_at hC ?_ | with_reducible refine wpAny_madeBy_exc hC ?_ | wp_step)
  refine codeAny_call_builtin_code (Code.quiet_builtin _ F.quiet) (kw_check_new F hT hC ?_)
  refine kw_new F hT hC ?_
  show wpAny _ _ _ _ _ _
  have k : ∀ b o, h.get? b = some o → ((h.push (W.kdv_tup [])).push (HandSPX.excO C h.objs.size)).get? b = some o := fun b o e => Heap.get?_push_of_some _ (Heap.get?_push_of_some _ e)
  have hC₁ := k _ _ hC
  have hget : ((h.push (W.kdv_tup [])).push (HandSPX.excO C h.objs.size)).get? (h.objs.size + 1) = some (HandSPX.excO C h.objs.size) := by heap_get
  have cC : (Value.ref C :: bm).contains (.ref C) = true := by simp
  have i1 := hi.keeps k
  have b1 := (hb (.ref (h.objs.size + 1))).keeps k
  unfold isInstance
  repeat (first | with_reducible refine wpAny_loadPart_at hget ?_ | (with_reducible refine wpAny_isSubtype_exc hC₁ ?_; rw [cC]) | wp_step)
  show wpAny _ _ (typeLookup (.ref C) _) _ _ _
  refine i1.at ?_
  refine wpAny_holding (wpAny_bind (b1.at ?_))
  refine wpAny_bind (wpAny_call (codeAny_mono hq fun r s' z => ?_))
  rcases r with e | (v | _ | _ | _) <;> first | exact z | exact z.elim | skip
  obtain ⟨rfl, z⟩ := z
  first
    | exact wpAny_pure (wpAny_pure z)
    | (wp_walk; exact z)
theorem kw_call (F : ExcBaseFacts B newId initId bmB) (hT : ∀ X : String, bm.contains (.type X) = bmB.contains (.type X)) {kw : List (Str × Value)} {fI : Addr}
    (hC : h.get? C = some (excClassObj nm q C N bs bm hdct sn sub ab col dd k0 k1 k2 k3 k5 newId))
    (hi : W.Looks (model prog w) h (typeLookup (.ref C) "__init__") (some (.ref fI))) (hb : ∀ self, W.Looks (model prog w) h (bindSpecial (.ref fI) self) (.ref fI, [self]))
    (hq : codeAny (model prog w) (A.under (.builtin "type.__call__" ⟨[.ref C], kw⟩)) (.call (.ref fI) ⟨[.ref (h.objs.size + 1)], kw⟩) (W.InitBack (h.objs.size + 1) R)
      ⟨(h.push (W.kdv_tup [])).push (HandSPX.excO C h.objs.size), g, d, t, os⟩) :
    codeAny (model prog w) A (.call (.ref C) ⟨[], kw⟩) R ⟨h, g, d, t, os⟩ := by
  have f1 := tc_lookup
  have f2 := tc_bind (.ref C)
  have hTy : (⟨h, g, d, t, os⟩ : Shared).TypeIs (.ref C) "type" := ⟨_, hC, rfl⟩
  refine codeAny_of_tree ?_
  show wpAny _ _ (callAny (.ref C) _) _ _ _
  repeat (any_goals (first | assumption | with_reducible refine wpAny_loadPart_at hC ?_ | wp_step))
  refine ⟨rfl, ?_⟩
  refine codeAny_call_builtin_at (Code.quiet_builtin _ (by decide +kernel)) entry_typeCall (kw_check_call hC (kw_type_call F hT hC hi hb ?_))
  refine codeAny_mono hq fun r s' z => ?_
  rcases r with e | (v | _ | _ | _) <;> exact z
end
section
variable {X : Cx} {x : Str} {S C fI : Addr} {k : Nat} {fd : FuncData} {kws : List Keyword} {tk : TA} {p pos : Pos} {ff : List Value → List Value → List Value} {fV : List V → List V → List V}
theorem pe_mkXK (T : ErrC X.K X.mg x S C fI) (F1 : FnOk X.prog X.w X.K X.mg X.base L2.CX0 k fI fd ["self", "value"] (spIni X.K C)) (hr : Room (k + 1) X.A) (bi : KBinds X.K fd ["self", "value"] ["value"] ff fV) (hff : ∀ a b, ff [a] [b] = [a, b]) (hfV : ∀ a b, fV [a] [b] = [a, b]) (hg : Gl X x)
    (hkw : PK X kws tk) (hdb : (x == ("__debug__" : Str)) = false := by decide)
    (all' : (backToKw pos (keywordEach kws X.env)).all (·.1.isSome) = true := by rfl) (nms : (backToKw pos (keywordEach kws X.env)).filterMap (·.1) = [("value" : Str)] := by rfl)
    (hpl : ((backTo pos (starEach [] X.env)).any (·.1) || (backToKw pos (keywordEach kws X.env)).any (·.1.isNone)) = false := by rfl) :
    PE X (.Call (.Name x p) [] kws pos) (tMkX C tk) := by
  refine ⟨fun pins s σ H Q I z => ?_⟩
  obtain ⟨_, _, _, _, bm, _, _, _, _, _, _, _, _, _, _, look, refs⟩ := T.ox.cls
  refine wpAny_Call_Name_kw (ld_glob I hg T.gC (PySem.W.callWith_KW0 (h₀ := X.base) I.ok.mod.kin T.ox.kC all' ?_ hpl) hdb)
  refine thn (hkw.run pos pins s σ H _ I z) fun us ⟨hp, gn, dr, tk, os⟩ ⟨vs, H1, J, rel, y, hy, q⟩ => ⟨J.kIn, ?_⟩
  subst hy
  obtain ⟨u, rfl, ry⟩ := rel.one
  rw [nms]
  show wpAny (model X.prog X.w) X.A (PySem.call (.ref C) [] [("value", u)]) _ _ _
  have grow : ∀ b o, hp.get? b = some o → ((hp.push (PySem.W.kdv_tup [])).push (PySem.HandSPX.excO C hp.objs.size)).get? b = some o := fun b o g => Heap.get?_push_of_some _ (Heap.get?_push_of_some _ g)
  have here : ((hp.push (PySem.W.kdv_tup [])).push (PySem.HandSPX.excO C hp.objs.size)).get? (hp.objs.size + 1) = some (PySem.HandSPX.excO C hp.objs.size) := by heap_get
  obtain ⟨a, ea⟩ : ∃ a, a = hp.objs.size + 1 := ⟨_, rfl⟩
  have above : hp.objs.size ≤ a := by omega
  have free : H1 a = none := J.hok.fresh above
  rw [← ea] at here
  have J2 : Inv X pins σ (upd H1 a (exo a C none)) ⟨(hp.push (PySem.W.kdv_tup [])).push (PySem.HandSPX.excO C hp.objs.size), gn, dr, tk, os⟩ := J.laid (t' := tk) (o := exo a C none) grow above (exo_ok here)
  have vals : Vals [V.ref a, y] [Value.ref a, u] := .cons rfl (.cons ry .nil)
  have pr : spIni X.K C [V.ref a, y] (upd H1 a (exo a C none)) (fun v H2 => v = .non ∧ ∃ d, H1 d = none ∧ d ≠ a ∧ H2 = upd (upd (upd H1 a (exo a C none)) d (exd d [(("value" : Str), y)])) a (exo a C (some d))) (fun _ _ _ => False) :=
    ⟨a, y, rfl, T.ox, T.no, upd_same, fun d hd ne => ⟨rfl, d, by rw [upd_ne ne] at hd; exact hd, ne, rfl⟩⟩
  have bd := bi.to _ [Value.ref a] [u] J2.kIn (by rw [hff]; rfl)
  rw [hff] at bd
  refine wpAny_call (kw_call F.excBase_ValueError (fun Y => PySem.HandSPX.refsVE_contains Y bm refs) (J.kIn _ _ look) (PySem.W.looks_findIn J.kIn T.iC) (fun self => PySem.W.bind_fn J.kIn self T.tI) ?_)
  rw [← ea]
  refine codeAny_mono (F1.run _ X.stack _ _ ⟨[Value.ref a], [("value", u)]⟩ [Value.ref a, u] _ _ (fun _ _ _ => False) (hr.make C [] [("value", u)]) (J2.env0.make C [] [("value", u)]) bd vals pr) fun r s' res => ?_
  have key : KeptEnd X pins σ Q a r s' := mk_kept J2 free q res
  revert key
  cases r with
  | error _ => exact id
  | ok fl => cases fl <;> exact id
end
section
variable {K : PySem.W.Frag} {σ : L2.St} {H : Hp} {Q : VK} {C : Addr} {ta : TA} {te : TE}
theorem r_mkX (h : ta σ H fun vs H1 => ∃ y, vs = [y] ∧ ∀ (a : Addr) (H2 : Hp), H1 a = none → Same H1 H2 → Exn H2 a C y → Q (.ref a) H2) : tMkX C ta σ H Q := h
theorem r_xfO (h : te σ H fun x H1 => ∃ (a D : Addr) (v : V), x = .ref a ∧ Exn H1 a D v ∧ XfC K D ∧ PySem.W.findIn K (.ref D) "value" = some none ∧ Q v H1) : tXfO K te σ H Q := h
theorem r_isO {a D : Addr} {v c : V} {cv : Value} {b : Bool} (h : Exn H a D v) (hc : ∀ u, RelV c u → u = cv) (T : ExcC K D) (k : PySem.W.kitOne K (.ref D) cv = some b) (q : Q (.bl b) H) : rIsO K [.ref a, c] H Q := ⟨a, D, v, c, cv, b, rfl, h, hc, T, k, q⟩
end
end Xk
local macro_rules | `(tactic| fail "ww1") => `(tactic| with_reducible first | refine Xk.r_mkX ?_ | refine Xk.r_xfO ?_)

namespace My
def IsArr (l : List Int) : Prop := l.Nodup ∧ ∀ v ∈ l, 1 ≤ v ∧ v ≤ l.length
/-- how many of the first p values are at most q -/
def cnt (l : List Int) (p q : Nat) : Nat := ((l.take p).filter (fun v => decide (v ≤ (q : Int)))).length
theorem cnt_zero (l : List Int) (q : Nat) : cnt l 0 q = 0 := by simp [cnt]
theorem cnt_succ {l : List Int} {p : Nat} (h : p < l.length) (q : Nat) : cnt l (p + 1) q = cnt l p q + if l[p] ≤ (q : Int) then 1 else 0 := by
  unfold cnt
  rw [List.take_add_one, List.getElem?_eq_getElem h, List.filter_append, List.length_append]
  by_cases e : l[p] ≤ (q : Int) <;> simp [e]
def AtMost (a b : List Int) : Prop := ∀ p q : Nat, cnt b p q ≤ cnt a p q
theorem cnt_all {l : List Int} {p q : Nat} (h : ∀ v ∈ l, v ≤ (q : Int)) : cnt l p q = min p l.length := by
  unfold cnt
  rw [List.filter_eq_self.mpr fun v hv => decide_eq_true (h v (List.mem_of_mem_take hv)), List.length_take]
theorem cnt_none {l : List Int} {p : Nat} (h : ∀ v ∈ l, 1 ≤ v) : cnt l p 0 = 0 := by
  unfold cnt
  rw [List.length_eq_zero_iff, List.filter_eq_nil_iff]
  intro v hv
  have := h v (List.mem_of_mem_take hv)
  simp; omega
theorem cnt_over {l : List Int} {p q : Nat} (h : l.length ≤ p) : cnt l p q = cnt l l.length q := by
  unfold cnt
  rw [List.take_of_length_le h, List.take_of_length_le (Nat.le_refl _)]
/-- counts with limits below the size tell everything -/
theorem most_iff {a b : List Int} (ha : IsArr a) (hb : IsArr b) (hl : a.length = b.length) : AtMost a b ↔ ∀ p, p ≤ a.length → ∀ q, q < a.length → cnt b p q ≤ cnt a p q := by
  refine ⟨fun h p _ q _ => h p q, fun h p q => ?_⟩
  have key : ∀ p, p ≤ a.length → cnt b p q ≤ cnt a p q := fun p hp => by
    by_cases hq : q < a.length
    · exact h p hp q hq
    · rw [cnt_all fun v hv => Int.le_trans (hb.2 v hv).2 (by omega), cnt_all fun v hv => Int.le_trans (ha.2 v hv).2 (by omega), hl]
      exact Nat.le_refl _
  by_cases hp : p ≤ a.length
  · exact key p hp
  · rw [cnt_over (l := a) (by omega), cnt_over (l := b) (by omega), ← hl]
    exact key _ (Nat.le_refl _)
noncomputable instance (a b : List Int) : Decidable (AtMost a b) := Classical.propDecidable _
theorem arr_asc {l : List Int} {n : Nat} (h : l.Perm ((List.range n).map fun (i : Nat) => (1 + i : Int))) : IsArr l := by
  have hl : l.length = n := by rw [h.length_eq]; simp
  refine ⟨h.symm.nodup ?_, fun v hv => ?_⟩
  · rw [List.Nodup, List.pairwise_map]
    exact List.nodup_range.imp fun h q => h (by omega)
  · obtain ⟨k, hk, rfl⟩ := List.mem_map.mp (h.mem_iff.mp hv)
    have := List.mem_range.mp hk
    omega
/-- a row of numbers by a function of the place -/
def tab (n : Nat) (f : Nat → Int) : List Int := (List.range n).map f
theorem tab_len (n : Nat) (f : Nat → Int) : (tab n f).length = n := by simp [tab]
theorem tab_get {n : Nat} {f : Nat → Int} {k : Nat} (h : k < n) : (tab n f)[k]? = some (f k) := by simp [tab, h]
theorem tab_set {n : Nat} {f : Nat → Int} {k : Nat} {v : Int} : (tab n f).set k v = tab n fun q => if q = k then v else f q := by
  apply List.ext_getElem
  · simp [tab]
  · intro i h1 h2
    rw [List.getElem_set]
    simp only [tab, List.getElem_map, List.getElem_range]
    by_cases e : k = i
    · subst e; simp
    · rw [if_neg e, if_neg (fun q => e q.symm)]
theorem tab_congr {n : Nat} {f g : Nat → Int} (h : ∀ q, q < n → f q = g q) : tab n f = tab n g := by
  unfold tab
  exact List.map_congr_left fun q hq => h q (List.mem_range.mp hq)
theorem tab_const (n : Nat) (c : Int) : List.replicate n c = tab n fun _ => c := by
  apply List.ext_getElem <;> simp [tab]
end My
namespace My
/-! ### sorted lists -/
def ins (x : Int) : List Int → List Int
  | [] => [x]
  | y :: r => if x ≤ y then x :: y :: r else y :: ins x r
def srt : List Int → List Int
  | [] => []
  | x :: r => ins x (srt r)
theorem ins_perm (x : Int) : ∀ l : List Int, (ins x l).Perm (x :: l)
  | [] => List.Perm.refl _
  | y :: r => by
    unfold ins
    split
    · exact List.Perm.refl _
    · exact ((ins_perm x r).cons y).trans (List.Perm.swap x y r)
theorem srt_perm : ∀ l : List Int, (srt l).Perm l
  | [] => List.Perm.refl _
  | x :: r => (ins_perm x (srt r)).trans ((srt_perm r).cons x)
theorem ins_up (x : Int) : ∀ l : List Int, l.Pairwise (· ≤ ·) → (ins x l).Pairwise (· ≤ ·)
  | [], _ => List.pairwise_singleton _ _
  | y :: r, h => by
    have h1 := List.pairwise_cons.mp h
    unfold ins
    split
    · rename_i hxy
      exact List.pairwise_cons.mpr ⟨fun z hz => by
        rcases List.mem_cons.mp hz with e | e
        · rw [e]; exact hxy
        · exact Int.le_trans hxy (h1.1 z e), h⟩
    · refine List.pairwise_cons.mpr ⟨fun z hz => ?_, ins_up x r h1.2⟩
      rcases List.mem_cons.mp ((ins_perm x r).mem_iff.mp hz) with e | e
      · rw [e]; omega
      · exact h1.1 z e
theorem srt_up : ∀ l : List Int, (srt l).Pairwise (· ≤ ·)
  | [] => List.Pairwise.nil
  | x :: r => ins_up x _ (srt_up r)
theorem up_unique : ∀ {l m : List Int}, l.Perm m → l.Pairwise (· ≤ ·) → m.Pairwise (· ≤ ·) → l = m
  | [], m, h, _, _ => (h.nil_eq).symm ▸ rfl
  | x :: r, m, h, h1, h2 => by
    cases m with
    | nil => exact absurd h.eq_nil (by simp)
    | cons y t =>
      have a1 := List.pairwise_cons.mp h1
      have a2 := List.pairwise_cons.mp h2
      have e : x = y := by
        have hx : x ∈ y :: t := h.mem_iff.mp List.mem_cons_self
        have hy : y ∈ x :: r := h.mem_iff.mpr List.mem_cons_self
        rcases List.mem_cons.mp hx with q | q
        · exact q
        · rcases List.mem_cons.mp hy with q' | q'
          · exact q'.symm
          · have := a1.1 y q'; have := a2.1 x q; omega
      subst e
      rw [up_unique ((List.perm_cons x).mp h) a1.2 a2.2]
theorem srt_is {l m : List Int} (h : m.Perm l) (u : m.Pairwise (· ≤ ·)) : m = srt l := up_unique (h.trans (srt_perm l).symm) u (srt_up l)
theorem srt_len (l : List Int) : (srt l).length = l.length := (srt_perm l).length_eq
/-- the values at the places i to j sorted -/
def seg (l : List Int) (i j : Nat) : List Int := l.take (i - 1) ++ srt ((l.drop (i - 1)).take (j - (i - 1))) ++ l.drop j
theorem seg_perm {l : List Int} {i j : Nat} (h1 : i ≤ j) (_h2 : j ≤ l.length) : (seg l i j).Perm l := by
  unfold seg
  have e : l = l.take (i - 1) ++ (l.drop (i - 1)).take (j - (i - 1)) ++ l.drop j := by
    conv => lhs; rw [← List.take_append_drop (i - 1) l, ← List.take_append_drop (j - (i - 1)) (l.drop (i - 1)), List.drop_drop]
    rw [List.append_assoc, show i - 1 + (j - (i - 1)) = j by omega]
  conv => rhs; rw [e]
  exact ((srt_perm _).append_left _).append_right _
theorem seg_len {l : List Int} {i j : Nat} (h1 : i ≤ j) (h2 : j ≤ l.length) : (seg l i j).length = l.length := (seg_perm h1 h2).length_eq
abbrev Cmd := Nat × Nat
def step (l : List Int) (c : Cmd) : List Int := seg l c.1 c.2
def runM (l : List Int) (cs : List Cmd) : List Int := cs.foldl step l
/-- the commands fit rows of n places -/
def Fits (n : Nat) (cs : List Cmd) : Prop := ∀ c ∈ cs, 1 ≤ c.1 ∧ c.1 ≤ c.2 ∧ c.2 ≤ n
theorem runM_perm : ∀ (cs : List Cmd) (l : List Int), Fits l.length cs → (runM l cs).Perm l
  | [], l, _ => List.Perm.refl l
  | c :: r, l, h => by
    have hc := h c List.mem_cons_self
    have p := seg_perm hc.2.1 hc.2.2
    refine List.Perm.trans (runM_perm r (step l c) ?_) p
    show Fits (seg l c.1 c.2).length r
    rw [p.length_eq]
    exact fun d hd => h d (List.mem_cons_of_mem _ hd)
theorem runM_len {cs : List Cmd} {l : List Int} (h : Fits l.length cs) : (runM l cs).length = l.length := (runM_perm cs l h).length_eq
theorem runM_snoc (l : List Int) (cs : List Cmd) (c : Cmd) : runM l (cs ++ [c]) = step (runM l cs) c := by unfold runM; rw [List.foldl_append]; rfl
theorem runM_app (l : List Int) (cs ds : List Cmd) : runM l (cs ++ ds) = runM (runM l cs) ds := List.foldl_append ..
theorem Fits.take {n k : Nat} {cs : List Cmd} (h : Fits n cs) : Fits n (cs.take k) := fun c hc => h c (List.mem_of_mem_take hc)
theorem Fits.drop {n k : Nat} {cs : List Cmd} (h : Fits n cs) : Fits n (cs.drop k) := fun c hc => h c (List.mem_of_mem_drop hc)
end My
namespace My
/-! ### counts of small values ahead of a place -/
def zc (l : List Int) (t : Int) (p : Nat) : Nat := (l.take p).countP (fun v => decide (v ≤ t))
theorem zc_succ {l : List Int} {p : Nat} (h : p < l.length) (t : Int) : zc l t (p + 1) = zc l t p + if l[p] ≤ t then 1 else 0 := by
  unfold zc
  rw [List.take_add_one, List.getElem?_eq_getElem h, List.countP_append]
  by_cases g : l[p] ≤ t <;> simp [g]
theorem zc_le (l : List Int) (t : Int) (p : Nat) : zc l t p ≤ p := Nat.le_trans List.countP_le_length (by rw [List.length_take]; omega)
theorem zc_step (l : List Int) (t : Int) (p : Nat) : zc l t p ≤ zc l t (p + 1) ∧ zc l t (p + 1) ≤ zc l t p + 1 := by
  by_cases h : p < l.length
  · rw [zc_succ h]; split <;> omega
  · have : zc l t (p + 1) = zc l t p := by unfold zc; rw [List.take_of_length_le (by omega), List.take_of_length_le (by omega)]
    omega
theorem zc_mono {l : List Int} {t : Int} {p : Nat} : ∀ d, zc l t p ≤ zc l t (p + d) ∧ zc l t (p + d) ≤ zc l t p + d
  | 0 => by simp
  | d + 1 => by
    have h1 := zc_mono (l := l) (t := t) (p := p) d
    have h2 := zc_step l t (p + d)
    rw [show p + (d + 1) = p + d + 1 by omega]
    omega
theorem up_zc (t : Int) : ∀ (s : List Int) (k : Nat), s.Pairwise (· ≤ ·) → zc s t k = min k (s.countP (fun v => decide (v ≤ t)))
  | [], k, _ => by simp [zc]
  | x :: r, 0, _ => by simp [zc]
  | x :: r, k + 1, h => by
    have h1 := List.pairwise_cons.mp h
    have ih := up_zc t r k h1.2
    unfold zc at ih ⊢
    rw [List.take_succ_cons, List.countP_cons, List.countP_cons]
    by_cases g : x ≤ t
    · simp only [g, decide_true, if_true]; rw [ih]; omega
    · have z : r.countP (fun v => decide (v ≤ t)) = 0 := List.countP_eq_zero.mpr fun v hv => by have := h1.1 v hv; simp; omega
      rw [z] at ih ⊢
      simp only [g, decide_false, Bool.false_eq_true, if_false]; rw [ih]; simp
theorem zc_app (a b : List Int) (t : Int) (p : Nat) : zc (a ++ b) t p = zc a t p + zc b t (p - a.length) := by
  unfold zc; rw [List.take_append, List.countP_append]
theorem zc_all {l : List Int} {t : Int} {p : Nat} (h : l.length ≤ p) : zc l t p = l.countP (fun v => decide (v ≤ t)) := by unfold zc; rw [List.take_of_length_le h]
theorem zc_seg {l : List Int} {i j : Nat} (h1 : 1 ≤ i) (h2 : i ≤ j) (h3 : j ≤ l.length) (t : Int) (p : Nat) :
    zc (seg l i j) t p = if p < i ∨ j < p then zc l t p else min (zc l t (i - 1) + (p - (i - 1))) (zc l t j) := by
  obtain ⟨A, M, B, rfl, hA, hM⟩ : ∃ A M B, l = A ++ M ++ B ∧ A.length = i - 1 ∧ M.length = j - (i - 1) := by
    refine ⟨l.take (i - 1), (l.drop (i - 1)).take (j - (i - 1)), l.drop j, ?_, by rw [List.length_take]; omega, by rw [List.length_take, List.length_drop]; omega⟩
    conv => lhs; rw [← List.take_append_drop (i - 1) l, ← List.take_append_drop (j - (i - 1)) (l.drop (i - 1)), List.drop_drop]
    rw [List.append_assoc, show i - 1 + (j - (i - 1)) = j by omega]
  have e : seg (A ++ M ++ B) i j = A ++ srt M ++ B := by
    unfold seg
    have e1 : (A ++ M ++ B).take (i - 1) = A := by rw [List.append_assoc, ← hA, List.take_left]
    have e2 : (A ++ M ++ B).drop (i - 1) = M ++ B := by rw [List.append_assoc, ← hA, List.drop_left]
    have e3 : (A ++ M ++ B).drop j = B := by rw [show j = (A ++ M).length by rw [List.length_append]; omega, List.drop_left]
    rw [e1, e2, e3, ← hM, List.take_left]
  rw [e]
  have hs : (srt M).length = M.length := srt_len M
  have cM : (srt M).countP (fun v => decide (v ≤ t)) = M.countP (fun v => decide (v ≤ t)) := (srt_perm M).countP_eq _
  simp only [zc_app, List.length_append, hs, hA, hM]
  rw [zc_all (l := A) (p := j) (by omega), zc_all (l := M) (p := j - (i - 1)) (by omega), show j - (i - 1 + (j - (i - 1))) = 0 by omega]
  rw [zc_all (l := A) (p := i - 1) (by omega), show i - 1 - (i - 1) = 0 by omega, show i - 1 - (i - 1 + (j - (i - 1))) = 0 by omega]
  have z0 : ∀ b : List Int, zc b t 0 = 0 := fun b => by simp [zc]
  rw [z0, z0, up_zc t _ _ (srt_up M), cM]
  by_cases g : p < i ∨ j < p
  · rw [if_pos g]
    rcases g with g | g
    · rw [show p - (i - 1) = 0 by omega]; rw [z0]; simp
    · rw [zc_all (l := M) (p := p - (i - 1)) (by omega)]
      have := List.countP_le_length (p := fun v => decide (v ≤ t)) (l := M)
      omega
  · rw [if_neg g, zc_all (l := A) (p := p) (by omega), show p - (i - 1 + (j - (i - 1))) = 0 by omega, z0]
    omega
/-- rows of one length with the same counts are equal -/
theorem zc_ext {l m : List Int} (hl : l.length = m.length) (h : ∀ t p, p ≤ l.length → zc l t p = zc m t p) : l = m := by
  refine List.ext_getElem hl fun k h1 h2 => ?_
  have key : ∀ t, l[k] ≤ t ↔ m[k] ≤ t := fun t => by
    have a := h t (k + 1) (by omega)
    rw [zc_succ h1, zc_succ h2, h t k (by omega)] at a
    by_cases g : l[k] ≤ t <;> by_cases g' : m[k] ≤ t <;> simp [g, g'] at a ⊢
  have := (key l[k]).mp (Int.le_refl _)
  have := (key m[k]).mpr (Int.le_refl _)
  omega
def desc (n : Nat) : List Int := (List.range n).map fun (k : Nat) => ((n : Int) - k)
theorem desc_len (n : Nat) : (desc n).length = n := by simp [desc]
theorem desc_get {n k : Nat} (h : k < (desc n).length) : (desc n)[k] = (n : Int) - k := by simp [desc]
theorem zc_desc {n : Nat} (q : Nat) (hq : q ≤ n) : ∀ p, p ≤ n → zc (desc n) ((n : Int) - q) p = p - q
  | 0, _ => by simp [zc]
  | p + 1, h => by
    have h' : p < (desc n).length := by rw [desc_len]; omega
    rw [zc_succ h', zc_desc q hq p (by omega), desc_get]
    split <;> omega
/-- what a script makes of a row, told by what it makes of the descending arrangement -/
def Told (n : Nat) (l0 l e : List Int) : Prop := l.length = n ∧ e.length = n ∧ ∀ (t : Int) (p : Nat), p ≤ n →
  (∀ q, q ≤ n → zc l t p ≤ zc l0 t q + zc e ((n : Int) - q) p) ∧ ∃ q, q ≤ n ∧ zc l t p = zc l0 t q + zc e ((n : Int) - q) p
theorem told_nil {l : List Int} : Told l.length l l (desc l.length) := ⟨rfl, desc_len _, fun t p hp => ⟨fun q hq => by
    rw [zc_desc q hq p hp]
    by_cases g : q ≤ p
    · have := (zc_mono (l := l) (t := t) (p := q) (p - q)).2
      rw [show q + (p - q) = p by omega] at this
      exact this
    · have := (zc_mono (l := l) (t := t) (p := p) (q - p)).1
      rw [show p + (q - p) = q by omega] at this
      omega, p, hp, by rw [zc_desc p hp p hp]; omega⟩⟩
theorem told_step {n : Nat} {l0 l e : List Int} {c : Cmd} (h1 : 1 ≤ c.1) (h2 : c.1 ≤ c.2) (h3 : c.2 ≤ n) (h : Told n l0 l e) : Told n l0 (step l c) (step e c) := by
  obtain ⟨hl, he, h⟩ := h
  refine ⟨(seg_len h2 (by omega)).trans hl, (seg_len h2 (by omega)).trans he, fun t p hp => ?_⟩
  have key : zc (step l c) t p = if p < c.1 ∨ c.2 < p then zc l t p else min (zc l t (c.1 - 1) + (p - (c.1 - 1))) (zc l t c.2) := zc_seg (l := l) h1 h2 (by omega) t p
  have kee : ∀ q : Nat, zc (step e c) ((n : Int) - q) p = _ := fun q => zc_seg (l := e) h1 h2 (by omega) ((n : Int) - q) p
  by_cases g : p < c.1 ∨ c.2 < p
  · have a := h t p hp
    refine ⟨fun q hq => ?_, ?_⟩
    · rw [key, kee q, if_pos g, if_pos g]; exact a.1 q hq
    · obtain ⟨q, hq, e1⟩ := a.2
      exact ⟨q, hq, by rw [key, kee q, if_pos g, if_pos g]; exact e1⟩
  · have a := h t (c.1 - 1) (by omega)
    have b := h t c.2 h3
    refine ⟨fun q hq => ?_, ?_⟩
    · rw [key, kee q, if_neg g, if_neg g]
      have := a.1 q hq; have := b.1 q hq
      omega
    · by_cases w : zc l t (c.1 - 1) + (p - (c.1 - 1)) ≤ zc l t c.2
      · obtain ⟨q, hq, e1⟩ := a.2
        refine ⟨q, hq, ?_⟩
        rw [key, kee q, if_neg g, if_neg g]
        have := b.1 q hq
        omega
      · obtain ⟨q, hq, e1⟩ := b.2
        refine ⟨q, hq, ?_⟩
        rw [key, kee q, if_neg g, if_neg g]
        have := a.1 q hq
        omega
theorem told_run {n : Nat} {l0 : List Int} : ∀ (cs : List Cmd) (l e : List Int), Fits n cs → Told n l0 l e → Told n l0 (runM l cs) (runM e cs)
  | [], _, _, _, h => h
  | c :: r, l, e, f, h => told_run r (step l c) (step e c) (fun d hd => f d (List.mem_cons_of_mem _ hd))
      (told_step (f c List.mem_cons_self).1 (f c List.mem_cons_self).2.1 (f c List.mem_cons_self).2.2 h)
theorem told_one {n : Nat} {l0 l m e : List Int} (h : Told n l0 l e) (g : Told n l0 m e) : l = m :=
  zc_ext (h.1.trans g.1.symm) fun t p hp => by
    rw [h.1] at hp
    obtain ⟨q, hq, e1⟩ := (h.2.2 t p hp).2
    obtain ⟨q', hq', e2⟩ := (g.2.2 t p hp).2
    have := (h.2.2 t p hp).1 q' hq'
    have := (g.2.2 t p hp).1 q hq
    omega
/-- scripts with one effect do the same -/
theorem same_eff {cs ds : List Cmd} {l : List Int} (hc : Fits l.length cs) (hd : Fits l.length ds) (h : runM (desc l.length) cs = runM (desc l.length) ds) : runM l cs = runM l ds := by
  have a := told_run cs l (desc l.length) hc told_nil
  have b := told_run ds l (desc l.length) hd told_nil
  rw [← h] at b
  exact told_one a b
end My
namespace My
/-! ### exchanges of neighbours -/
theorem two_at {l : List Int} {k : Nat} (h1 : 1 ≤ k) (h2 : k < l.length) : ∃ A B, l = A ++ l[k - 1] :: l[k] :: B ∧ A.length = k - 1 := by
  refine ⟨l.take (k - 1), l.drop (k + 1), ?_, by rw [List.length_take]; omega⟩
  have e1 : l.drop (k - 1) = l[k - 1] :: l.drop k := by
    rw [List.drop_eq_getElem_cons (by omega)]
    simp only [show k - 1 + 1 = k by omega]
  have e2 : l.drop k = l[k] :: l.drop (k + 1) := List.drop_eq_getElem_cons h2
  rw [← e2, ← e1, List.take_append_drop]
theorem seg_two {A B : List Int} {a b : Int} {k : Nat} (h1 : 1 ≤ k) (hA : A.length = k - 1) : seg (A ++ a :: b :: B) k (k + 1) = if b < a then A ++ b :: a :: B else A ++ a :: b :: B := by
  unfold seg
  have e1 : (A ++ a :: b :: B).take (k - 1) = A := by rw [← hA, List.take_left]
  have e2 : (A ++ a :: b :: B).drop (k - 1) = a :: b :: B := by rw [← hA, List.drop_left]
  have e3 : (A ++ a :: b :: B).drop (k + 1) = B := by
    rw [show A ++ a :: b :: B = (A ++ [a, b]) ++ B by simp, show k + 1 = (A ++ [a, b]).length by rw [List.length_append]; show _ = A.length + 2; omega, List.drop_left]
  rw [e1, e2, e3, show k + 1 - (k - 1) = 2 by omega]
  have e4 : srt [a, b] = if a ≤ b then [a, b] else [b, a] := by simp [srt, ins]
  show A ++ srt [a, b] ++ B = _
  rw [e4]
  by_cases g : a ≤ b
  · rw [if_pos g, if_neg (by omega)]; simp
  · rw [if_neg g, if_pos (by omega)]; simp
/-- two neighbours exchanged -/
def swp (l : List Int) (k : Nat) (x y : Int) : List Int := (l.set (k - 1) x).set k y
theorem swp_two {A B : List Int} {a b x y : Int} {k : Nat} (h1 : 1 ≤ k) (hA : A.length = k - 1) : swp (A ++ a :: b :: B) k x y = A ++ x :: y :: B := by
  unfold swp
  rw [List.set_append_right _ _ (by omega), show k - 1 - A.length = 0 by omega]
  rw [List.set_append_right _ _ (by omega), show k - A.length = 1 by omega]
  rfl
theorem nb_gt {l : List Int} {k : Nat} (h1 : 1 ≤ k) (h2 : k < l.length) (g : l[k] < l[k - 1]) : seg l k (k + 1) = swp l k l[k] l[k - 1] := by
  obtain ⟨A, B, e, hA⟩ := two_at h1 h2
  generalize l[k] = b at e g; generalize l[k - 1] = a at e g
  rw [e, seg_two h1 hA, if_pos g, swp_two h1 hA]
theorem nb_le {l : List Int} {k : Nat} (h1 : 1 ≤ k) (h2 : k < l.length) (g : ¬ l[k] < l[k - 1]) : seg l k (k + 1) = l := by
  obtain ⟨A, B, e, hA⟩ := two_at h1 h2
  generalize l[k] = b at e g; generalize l[k - 1] = a at e g
  rw [e, seg_two h1 hA, if_neg g]
theorem swp_len {l : List Int} {k : Nat} {x y : Int} : (swp l k x y).length = l.length := by simp [swp]
theorem nb_back {l : List Int} {k : Nat} (h1 : 1 ≤ k) (h2 : k < l.length) (g : l[k - 1] < l[k]) : seg (swp l k l[k] l[k - 1]) k (k + 1) = l := by
  obtain ⟨A, B, e, hA⟩ := two_at h1 h2
  generalize l[k] = b at e g ⊢; generalize l[k - 1] = a at e g ⊢
  rw [e, swp_two h1 hA, seg_two h1 hA, if_pos g]
theorem swp_perm {l : List Int} {k : Nat} (h1 : 1 ≤ k) (h2 : k < l.length) : (swp l k l[k] l[k - 1]).Perm l := by
  obtain ⟨A, B, e, hA⟩ := two_at h1 h2
  generalize l[k] = b at e ⊢; generalize l[k - 1] = a at e ⊢
  rw [e, swp_two h1 hA]
  exact (List.Perm.swap _ _ _).append_left _
def nbs (l : List Int) (ps : List Nat) : List Int := runM l (ps.map fun k => (k, k + 1))
def Nb (n : Nat) (ps : List Nat) : Prop := ∀ k ∈ ps, 1 ≤ k ∧ k < n
theorem Nb.fits {n : Nat} {ps : List Nat} (h : Nb n ps) : Fits n (ps.map fun k => (k, k + 1)) := fun c hc => by
  obtain ⟨k, hk, rfl⟩ := List.mem_map.mp hc
  have := h k hk
  show 1 ≤ k ∧ k ≤ k + 1 ∧ k + 1 ≤ n
  omega
theorem nbs_cons (l : List Int) (k : Nat) (ps : List Nat) : nbs l (k :: ps) = nbs (seg l k (k + 1)) ps := rfl
theorem nbs_snoc (l : List Int) (k : Nat) (ps : List Nat) : nbs l (ps ++ [k]) = seg (nbs l ps) k (k + 1) := by unfold nbs; rw [List.map_append, runM_app]; rfl
theorem nbs_len {l : List Int} {ps : List Nat} (h : Nb l.length ps) : (nbs l ps).length = l.length := runM_len h.fits
theorem nbs_perm {l : List Int} {ps : List Nat} (h : Nb l.length ps) : (nbs l ps).Perm l := runM_perm _ _ h.fits
/-- the values ahead of place e, all but the one at place pl, do not rise -/
def Ins (l : List Int) (e pl : Nat) : Prop := ∀ a b, a < b → b ≤ e → b ≠ pl → l.getD b 0 ≤ l.getD a 0
def Down (l : List Int) (e : Nat) : Prop := ∀ a b, a < b → b < e → l.getD b 0 ≤ l.getD a 0
theorem swp_get {l : List Int} {k j : Nat} {x y : Int} (h1 : 1 ≤ k) (h2 : k < l.length) : (swp l k x y).getD j 0 = if j = k then y else if j = k - 1 then x else l.getD j 0 := by
  unfold swp
  simp only [List.getD_eq_getElem?_getD, List.getElem?_set, List.length_set]
  by_cases e1 : k = j
  · subst e1; simp [h2]
  · by_cases e2 : k - 1 = j
    · rw [if_neg e1, if_pos e2, if_pos (by omega), if_neg (Ne.symm e1), if_pos e2.symm]; rfl
    · rw [if_neg e1, if_neg e2, if_neg (Ne.symm e1), if_neg (Ne.symm e2)]
theorem getD_at {l : List Int} {k : Nat} (h : k < l.length) : l[k] = l.getD k 0 := by simp [List.getD, h]
theorem ins_step {l : List Int} {e pl : Nat} (h : Ins l e pl) (h1 : 1 ≤ pl) (h2 : pl < l.length) (h3 : pl ≤ e) (g : l[pl - 1] < l[pl]) : Ins (swp l pl l[pl] l[pl - 1]) e (pl - 1) := fun a b hab hb hne => by
  rw [swp_get h1 h2, swp_get h1 h2]
  rw [getD_at h2, getD_at (show pl - 1 < l.length by omega)] at *
  by_cases e1 : b = pl
  · rw [if_pos e1, if_neg (by omega)]
    split
    · omega
    · exact h a (pl - 1) (by omega) (by omega) (by omega)
  · rw [if_neg e1, if_neg hne]
    split
    · exact h (pl - 1) b (by omega) hb e1
    · split
      · exact h pl b (by omega) hb e1
      · exact h a b hab hb e1
theorem ins_done {l : List Int} {e pl : Nat} (h : Ins l e pl) (h2 : pl < l.length) (h3 : pl ≤ e) (g : pl = 0 ∨ ∃ h0 : 1 ≤ pl, ¬ l[pl - 1] < l[pl]) : Down l (e + 1) := fun a b hab hb => by
  by_cases e1 : b = pl
  · subst e1
    rcases g with g | ⟨h0, g⟩
    · omega
    · rw [getD_at h2, getD_at (show b - 1 < l.length by omega)] at g
      by_cases e2 : a = b - 1
      · rw [e2]; omega
      · have := h a (b - 1) (by omega) (by omega) (by omega)
        omega
  · exact h a b hab (by omega) e1
theorem ins_start {l : List Int} {e : Nat} (h : Down l e) : Ins l e e := fun a b hab hb hne => h a b hab (by omega)
def ascN (n : Nat) : List Int := (List.range n).map fun (i : Nat) => (1 + i : Int)
theorem desc_rev (n : Nat) : desc n = (ascN n).reverse := by
  refine List.ext_getElem (by simp [desc, ascN]) fun k h1 h2 => ?_
  have : k < n := by simpa [desc] using h1
  simp [desc, ascN]
  omega
theorem asc_up : ∀ n, (ascN n).Pairwise (· ≤ ·)
  | 0 => List.Pairwise.nil
  | n + 1 => by
    unfold ascN
    rw [List.range_succ, List.map_append]
    refine List.pairwise_append.mpr ⟨asc_up n, List.pairwise_singleton _ _, fun a ha b hb => ?_⟩
    obtain ⟨i, hi, rfl⟩ := List.mem_map.mp ha
    rw [List.map_singleton, List.mem_singleton] at hb
    have := List.mem_range.mp hi
    omega
theorem down_desc {l : List Int} {n : Nat} (hp : l.Perm (ascN n)) (h : Down l n) : l = desc n := by
  rw [desc_rev]
  have hl : l.length = n := by rw [hp.length_eq]; simp [ascN]
  have e : l.reverse = ascN n := up_unique ((List.reverse_perm l).trans hp) (by
    rw [List.pairwise_reverse, List.pairwise_iff_getElem]
    intro i j hi hj hij
    have := h i j hij (by omega)
    rw [← getD_at hi, ← getD_at hj] at this
    exact this) (asc_up n)
  rw [← e, List.reverse_reverse]
theorem desc_perm (n : Nat) : (desc n).Perm (ascN n) := by rw [desc_rev]; exact List.reverse_perm _
/-- each exchange changes the row at its turn -/
def Liv : List Int → List Nat → Prop
  | _, [] => True
  | l, k :: r => seg l k (k + 1) ≠ l ∧ Liv (seg l k (k + 1)) r
/-- the exchange places as they are found: one value sinks in -/
def bub : Nat → List Int → List Nat → List Int × List Nat
  | 0, l, ps => (l, ps)
  | k + 1, l, ps => if l.getD k 0 < l.getD (k + 1) 0 then bub k (swp l (k + 1) (l.getD (k + 1) 0) (l.getD k 0)) (ps ++ [k + 1]) else (l, ps)
def exU (E : List Int) : Nat → List Int × List Nat
  | 0 => (E, [])
  | i + 1 => bub (1 + i) (exU E i).1 (exU E i).2
def exM (E : List Int) : List Nat := (exU E (E.length - 1)).2.reverse
theorem bub_step {l : List Int} {k : Nat} {ps : List Nat} (h1 : 1 ≤ k) (h2 : k < l.length) (g : l[k - 1] < l[k]) : bub k l ps = bub (k - 1) (swp l k l[k] l[k - 1]) (ps ++ [k]) := by
  obtain ⟨j, rfl⟩ : ∃ j, k = j + 1 := ⟨k - 1, by omega⟩
  have a : l.getD j 0 = l[j] := (getD_at (by omega)).symm
  have b : l.getD (j + 1) 0 = l[j + 1] := (getD_at h2).symm
  rw [bub, a, b]
  exact if_pos g
theorem bub_done {l : List Int} {k : Nat} {ps : List Nat} (h2 : k < l.length) (g : k = 0 ∨ ∃ h0 : 1 ≤ k, ¬ l[k - 1] < l[k]) : bub k l ps = (l, ps) := by
  cases k with
  | zero => rfl
  | succ j =>
    rcases g with g | ⟨_, g⟩
    · omega
    have a : l.getD j 0 = l[j] := (getD_at (by omega)).symm
    have b : l.getD (j + 1) 0 = l[j + 1] := (getD_at h2).symm
    rw [bub, a, b]
    exact if_neg g
/-- a row on its way from an effect back to the descending arrangement -/
def Way (E l : List Int) (ps : List Nat) : Prop := l.Perm E ∧ Nb E.length ps ∧ nbs l ps.reverse = E ∧ Liv l ps.reverse
theorem way_nil (E : List Int) : Way E E [] := ⟨List.Perm.refl _, ⟨fun k hk => (by cases hk), rfl, trivial⟩⟩
theorem way_step {E l : List Int} {ps : List Nat} {k : Nat} (h : Way E l ps) (h1 : 1 ≤ k) (h2 : k < l.length) (g : l[k - 1] < l[k]) : Way E (swp l k l[k] l[k - 1]) (ps ++ [k]) := by
  refine ⟨(swp_perm h1 h2).trans h.1, fun j hj => ?_, ?_, ?_⟩
  · rcases List.mem_append.mp hj with z | z
    · exact h.2.1 j z
    · rw [List.mem_singleton.mp z, ← h.1.length_eq]; exact ⟨h1, h2⟩
  · rw [List.reverse_append]
    show nbs (seg (swp l k l[k] l[k - 1]) k (k + 1)) ps.reverse = E
    rw [nb_back h1 h2 g]
    exact h.2.2.1
  · rw [List.reverse_append]
    show seg (swp l k l[k] l[k - 1]) k (k + 1) ≠ swp l k l[k] l[k - 1] ∧ Liv (seg (swp l k l[k] l[k - 1]) k (k + 1)) ps.reverse
    rw [nb_back h1 h2 g]
    refine ⟨fun e => ?_, h.2.2.2⟩
    have e1 := swp_get (l := l) (k := k) (j := k) (x := l[k]) (y := l[k - 1]) h1 h2
    rw [← e, if_pos rfl, ← getD_at h2] at e1
    omega
/-- what stands for any script with an effect -/
def Stand (E : List Int) (ps : List Nat) : Prop := Nb E.length ps ∧ nbs (desc E.length) ps = E
theorem way_end {E l : List Int} {ps : List Nat} {n : Nat} (h : Way E l ps) (hE : E.Perm (ascN n)) (hd : Down l n) : Stand E ps.reverse := by
  have hn : E.length = n := by rw [hE.length_eq]; simp [ascN]
  refine ⟨fun k hk => h.2.1 k (List.mem_reverse.mp hk), ?_⟩
  rw [hn, ← down_desc (h.1.trans hE) hd]
  exact h.2.2.1
theorem way_liv {E l : List Int} {ps : List Nat} {n : Nat} (h : Way E l ps) (hE : E.Perm (ascN n)) (hd : Down l n) : Liv (desc n) ps.reverse := by
  rw [← down_desc (h.1.trans hE) hd]
  exact h.2.2.2
theorem stand_run {E l : List Int} {ps : List Nat} {cs : List Cmd} (h : Stand E ps) (hl : l.length = E.length) (hc : Fits E.length cs) (he : runM (desc E.length) cs = E) : nbs l ps = runM l cs := by
  refine same_eff (hl ▸ h.1.fits) (hl ▸ hc) ?_
  rw [hl, he]
  exact h.2
end My
namespace My
def less (x : Int) (l : List Int) : Nat := (l.filter (fun y => decide (y < x))).length
def inv : List Int → Nat
  | [] => 0
  | x :: r => less x r + inv r
theorem less_perm {x : Int} {l m : List Int} (h : l.Perm m) : less x l = less x m := (h.filter _).length_eq
theorem less_cons (x y : Int) (r : List Int) : less x (y :: r) = (if y < x then 1 else 0) + less x r := by
  unfold less
  rw [List.filter_cons]
  by_cases h : y < x <;> simp [h]; omega
theorem inv_sorted : ∀ (s : List Int), s.Pairwise (· ≤ ·) → inv s = 0
  | [], _ => rfl
  | x :: r, h => by
    have h1 := List.pairwise_cons.mp h
    show less x r + inv r = 0
    rw [inv_sorted r h1.2]
    have : less x r = 0 := by
      unfold less
      rw [List.length_eq_zero_iff, List.filter_eq_nil_iff]
      intro y hy
      have := h1.1 y hy
      simp; omega
    omega
def invU (ns : List Int) : Nat → Nat
  | 0 => 0
  | i + 1 => invU ns i + less (ns.getD i 0) (ns.drop (i + 1))
theorem invU_cons (x : Int) (r : List Int) : ∀ i, invU (x :: r) (i + 1) = less x r + invU r i
  | 0 => by simp [invU]
  | i + 1 => by
    rw [invU, invU_cons x r i, invU]
    simp
    omega
theorem invU_all : ∀ ns : List Int, invU ns ns.length = inv ns
  | [] => rfl
  | x :: r => by rw [List.length_cons, invU_cons, invU_all r]; rfl
theorem less_le (x : Int) (l : List Int) : less x l ≤ l.length := List.length_filter_le _ _
theorem inv_le : ∀ ns : List Int, inv ns ≤ ns.length * ns.length
  | [] => Nat.le_refl _
  | x :: r => by
    have h1 := less_le x r
    have ih := inv_le r
    show less x r + inv r ≤ (r.length + 1) * (r.length + 1)
    rw [Nat.add_mul, Nat.mul_add, Nat.one_mul, Nat.mul_one]
    omega
def gt (x : Int) (l : List Int) : Nat := (l.filter (fun y => decide (x < y))).length
theorem inv_snoc (x : Int) : ∀ l : List Int, inv (l ++ [x]) = inv l + gt x l
  | [] => rfl
  | y :: r => by
    show less y (r ++ [x]) + inv (r ++ [x]) = less y r + inv r + gt x (y :: r)
    rw [inv_snoc x r]
    have e1 : less y (r ++ [x]) = less y r + if x < y then 1 else 0 := by
      unfold less
      rw [List.filter_append, List.length_append]
      by_cases h : x < y <;> simp [h]
    have e2 : gt x (y :: r) = (if x < y then 1 else 0) + gt x r := by
      unfold gt
      rw [List.filter_cons]
      by_cases h : x < y <;> simp [h]; omega
    omega
def gts (l : List Int) : Nat → List Int
  | 0 => []
  | i + 1 => gts l i ++ [((gt (l.getD i 0) (l.take i) : Nat) : Int)]
theorem gts_len (l : List Int) : ∀ i, (gts l i).length = i
  | 0 => rfl
  | i + 1 => by rw [gts, List.length_append, gts_len l i]; rfl
theorem gts_sum (l : List Int) : ∀ i, i ≤ l.length → (gts l i).sum = ((inv (l.take i) : Nat) : Int)
  | 0, _ => by simp [gts, inv]
  | i + 1, h => by
    have hi : i < l.length := h
    rw [gts, List.sum_append, gts_sum l i (by omega), List.take_add_one, List.getElem?_eq_getElem hi]
    show _ = ((inv (l.take i ++ [l[i]]) : Nat) : Int)
    rw [inv_snoc, show l.getD i 0 = l[i] by simp [List.getD, hi]]
    simp
theorem gt_less {x : Int} : ∀ {l : List Int}, x ∉ l → gt x l + less x l = l.length
  | [], _ => rfl
  | y :: r, h => by
    have h1 := gt_less (x := x) (l := r) (fun q => h (List.mem_cons_of_mem _ q))
    have h2 : x ≠ y := fun q => h (q ▸ List.mem_cons_self)
    rw [less_cons, List.length_cons]
    have e2 : gt x (y :: r) = (if x < y then 1 else 0) + gt x r := by
      unfold gt
      rw [List.filter_cons]
      by_cases h : x < y <;> simp [h]; omega
    rw [e2]
    by_cases h3 : x < y
    · rw [if_pos h3, if_neg (by omega)]; omega
    · rw [if_neg h3, if_pos (by omega)]; omega
theorem gt_perm {x : Int} {l m : List Int} (h : l.Perm m) : gt x l = gt x m := (h.filter _).length_eq
theorem inv_rev : ∀ l : List Int, l.Nodup → 2 * (inv l.reverse + inv l) + l.length = l.length * l.length
  | [], _ => rfl
  | x :: r, h => by
    have h1 := List.nodup_cons.mp h
    have ih := inv_rev r h1.2
    have g := gt_less h1.1
    rw [List.reverse_cons, inv_snoc, gt_perm (List.reverse_perm r), List.length_cons]
    show 2 * (inv r.reverse + gt x r + (less x r + inv r)) + (r.length + 1) = (r.length + 1) * (r.length + 1)
    have e : (r.length + 1) * (r.length + 1) = r.length * r.length + r.length + r.length + 1 := by rw [Nat.succ_mul, Nat.mul_succ]; omega
    rw [e]
    omega
end My
namespace My
abbrev Pr := Int × Int
/-- the first number below n that p holds of -/
def firstN (p : Nat → Bool) (n : Nat) : Option Nat := ((List.range n).filter p).head?
theorem first_some {p : Nat → Bool} {n i : Nat} (hi : i < n) (h : p i = true) (hj : ∀ j, j < i → p j = false) : firstN p n = some i := by
  unfold firstN
  rw [show n = i + (n - i) by omega, List.range_add, List.filter_append, show (List.range i).filter p = [] from List.filter_eq_nil_iff.mpr fun j hm => by rw [hj j (List.mem_range.mp hm)]; decide, List.nil_append,
    show n - i = 1 + (n - i - 1) by omega, List.range_add, List.map_append, List.filter_append]
  simp [h]
theorem first_none {p : Nat → Bool} {n : Nat} (h : ∀ j, j < n → p j = false) : firstN p n = none := by
  unfold firstN
  rw [show (List.range n).filter p = [] from List.filter_eq_nil_iff.mpr fun j hm => by rw [h j (List.mem_range.mp hm)]; decide]
  rfl
theorem first_cases (p : Nat → Bool) (n : Nat) : (∃ i, firstN p n = some i ∧ i < n ∧ p i = true ∧ ∀ j, j < i → p j = false) ∨ (firstN p n = none ∧ ∀ j, j < n → p j = false) := by
  induction n with
  | zero => exact .inr ⟨rfl, fun j hj => absurd hj (Nat.not_lt_zero _)⟩
  | succ n ih =>
    rcases ih with ⟨i, e, hi, hp, hj⟩ | ⟨e, hj⟩
    · exact .inl ⟨i, first_some (by omega) hp hj, by omega, hp, hj⟩
    · cases h : p n with
      | true => exact .inl ⟨n, first_some (by omega) h hj, by omega, h, hj⟩
      | false =>
        have all : ∀ j, j < n + 1 → p j = false := fun j hm => by
          by_cases e : j = n
          · rw [e]; exact h
          · exact hj j (by omega)
        exact .inr ⟨first_none all, all⟩
theorem first_at {p : Nat → Bool} {n i : Nat} (h : firstN p n = some i) : i < n ∧ p i = true ∧ ∀ j, j < i → p j = false := by
  rcases first_cases p n with ⟨k, e, r⟩ | ⟨e, _⟩
  · rw [h] at e; cases e; exact r
  · rw [h] at e; cases e
theorem first_no {p : Nat → Bool} {n : Nat} (h : firstN p n = none) : ∀ j, j < n → p j = false := by
  rcases first_cases p n with ⟨k, e, _⟩ | ⟨_, r⟩
  · rw [h] at e; cases e
  · exact r
/-- a pair that fits -/
def FitW (n : Int) (c : Pr) : Prop := 1 ≤ c.1 ∧ c.1 ≤ c.2 ∧ c.2 ≤ n
instance (n : Int) (c : Pr) : Decidable (FitW n c) := by unfold FitW; infer_instance
/-- the first pair that does not fit -/
def wrW (n : Int) (ws : List Pr) (i : Nat) : Bool := !decide (FitW n (ws.getD i (0, 0)))
def eW (n : Int) (ws : List Pr) : Option Nat := firstN (wrW n ws) ws.length
/-- the first value that is no value of an arrangement -/
def wrR (ns : List Int) (i : Nat) : Bool := !decide (1 ≤ ns.getD i 0 ∧ ns.getD i 0 ≤ (ns.length : Int) ∧ ns.getD i 0 ∉ ns.take i)
def eR (ns : List Int) : Option Nat := firstN (wrR ns) ns.length
theorem wrW_at {n : Int} {ws : List Pr} {i : Nat} {c : Pr} (h : ws[i]? = some c) : wrW n ws i = !decide (FitW n c) := by
  unfold wrW; rw [List.getD_eq_getElem?_getD, h]; rfl
theorem wrR_at {ns : List Int} {i : Nat} (h : i < ns.length) : wrR ns i = !decide (1 ≤ ns[i] ∧ ns[i] ≤ (ns.length : Int) ∧ ns[i] ∉ ns.take i) := by
  unfold wrR; rw [List.getD_eq_getElem?_getD, List.getElem?_eq_getElem h]; rfl
theorem eW_fits {n : Int} {ws : List Pr} (h : eW n ws = none) : ∀ c ∈ ws, FitW n c := fun c hc => by
  obtain ⟨i, hi, e⟩ := List.getElem_of_mem hc
  have := first_no h i hi
  rw [wrW_at (c := c) (by rw [List.getElem?_eq_getElem hi, e])] at this
  simpa using this
def toW (c : Cmd) : Pr := ((c.1 : Int), (c.2 : Int))
/-- pairs that fit are commands -/
theorem fits_cmds {n : Nat} : ∀ {ws : List Pr}, (∀ c ∈ ws, FitW (n : Int) c) → ∃ cs : List Cmd, Fits n cs ∧ ws = cs.map toW
  | [], _ => ⟨[], fun _ h => (by cases h), rfl⟩
  | c :: r, h => by
    obtain ⟨cs, hf, e⟩ := fits_cmds (ws := r) fun c hc => h c (List.mem_cons_of_mem _ hc)
    have hc := h c List.mem_cons_self
    unfold FitW at hc
    refine ⟨(c.1.toNat, c.2.toNat) :: cs, fun d hd => ?_, ?_⟩
    · rcases List.mem_cons.mp hd with q | q
      · rw [q]
        have h1 : ((c.1.toNat, c.2.toNat) : Cmd).1 = c.1.toNat := rfl
        have h2 : ((c.1.toNat, c.2.toNat) : Cmd).2 = c.2.toNat := rfl
        rw [h1, h2]; omega
      · exact hf d q
    · rw [List.map_cons, ← e]
      congr 1
      unfold toW
      exact Prod.ext (by show c.1 = ((c.1.toNat : Nat) : Int); omega) (by show c.2 = ((c.2.toNat : Nat) : Int); omega)
theorem nodup_permX : ∀ {l m : List Int}, l.Nodup → (∀ v ∈ l, v ∈ m) → m.length = l.length → l.Perm m
  | [], m, _, _, h => by rw [List.eq_nil_of_length_eq_zero h]
  | x :: r, m, hn, hs, h => by
    have h1 := List.nodup_cons.mp hn
    have hx := hs x List.mem_cons_self
    have hp := List.perm_cons_erase hx
    have hl := hp.length_eq
    rw [List.length_cons] at hl h
    refine ((nodup_permX (m := m.erase x) h1.2 (fun v hv => ?_) (by omega)).cons x).trans hp.symm
    have hne : v ≠ x := fun e => h1.1 (e ▸ hv)
    exact (List.mem_erase_of_ne hne).mpr (hs v (List.mem_cons_of_mem _ hv))
theorem eR_arr {ns : List Int} (h : eR ns = none) : IsArr ns := by
  have g := first_no h
  have all : ∀ i (hi : i < ns.length), 1 ≤ ns[i] ∧ ns[i] ≤ (ns.length : Int) ∧ ns[i] ∉ ns.take i := fun i hi => by
    have := g i hi
    rw [wrR_at hi] at this
    simpa using this
  refine ⟨?_, fun v hv => ?_⟩
  · rw [List.Nodup, List.pairwise_iff_getElem]
    intro i j hi hj hij e
    refine (all j hj).2.2 ?_
    rw [← e]
    exact List.mem_take_iff_getElem.mpr ⟨i, by omega, rfl⟩
  · obtain ⟨i, hi, e⟩ := List.getElem_of_mem hv
    rw [← e]
    exact ⟨(all i hi).1, (all i hi).2.1⟩
theorem arr_eR {ns : List Int} (h : IsArr ns) : eR ns = none := first_none fun i hi => by
  rw [wrR_at hi]
  have h1 := h.2 _ (List.getElem_mem hi)
  have h2 : ns[i] ∉ ns.take i := fun hm => by
    obtain ⟨j, hj, e⟩ := List.mem_take_iff_getElem.mp hm
    have := List.pairwise_iff_getElem.mp (show ns.Pairwise (· ≠ ·) from h.1) j i (by omega) hi (by omega)
    exact this e
  simp [h1.1, h1.2, h2]
theorem arr_perm {ns : List Int} (h : IsArr ns) : ns.Perm (ascN ns.length) := nodup_permX h.1 (fun v hv => by
  have := h.2 v hv
  unfold ascN
  exact List.mem_map.mpr ⟨(v - 1).toNat, List.mem_range.mpr (by omega), by show (1 : Int) + ((v - 1).toNat : Int) = v; omega⟩) (by simp [ascN])
theorem toW_fit {n : Nat} {cs : List Cmd} (h : Fits n cs) : eW (n : Int) (cs.map toW) = none := first_none fun i hi => by
  have hi' : i < cs.length := by simpa using hi
  rw [wrW_at (c := toW cs[i]) (by rw [List.getElem?_map, List.getElem?_eq_getElem hi']; rfl)]
  have := h cs[i] (List.getElem_mem hi')
  have g : FitW (n : Int) (toW cs[i]) := by unfold FitW toW; refine ⟨?_, ?_, ?_⟩ <;> simp only <;> omega
  simp [g]
end My
namespace L05
open PySem PySem.Spec PyProof.Rows L2 Xk
def topS (i : Nat) : Stmt := PySem.Challenge.pw_sortstretches_k05_errors_of_rows.main.body.getD i (.Pass ⟨0, 0, 0, 0⟩)
abbrev s_check_size : Stmt := topS 10
theorem sc_check_size : FnScope ["size"] ["size"] (defScope s_check_size) := ⟨rfl, rfl, rfl, by decide +kernel, rfl, by decide +kernel, by decide +kernel⟩
abbrev s_check_script : Stmt := topS 11
theorem sc_check_script : FnScope ["size", "commands", "index", "first", "last"] ["size", "commands"] (defScope s_check_script) := ⟨rfl, rfl, rfl, by decide +kernel, rfl, by decide +kernel, by decide +kernel⟩
abbrev s_check_sized_script : Stmt := topS 12
theorem sc_check_sized_script : FnScope ["size", "commands"] ["size", "commands"] (defScope s_check_sized_script) := ⟨rfl, rfl, rfl, by decide +kernel, rfl, by decide +kernel, by decide +kernel⟩
abbrev s_check_arrangement : Stmt := topS 13
theorem sc_check_arrangement : FnScope ["row", "seen", "index", "value"] ["row"] (defScope s_check_arrangement) := ⟨rfl, rfl, rfl, by decide +kernel, rfl, by decide +kernel, by decide +kernel⟩
abbrev s_sort_stretches : Stmt := topS 15
theorem sc_sort_stretches : FnScope ["row", "commands", "present", "first", "last"] ["row", "commands"] (defScope s_sort_stretches) := ⟨rfl, rfl, rfl, by decide +kernel, rfl, by decide +kernel, by decide +kernel⟩
abbrev s_run : Stmt := topS 16
theorem sc_run : FnScope ["row", "commands"] ["row", "commands"] (defScope s_run) := ⟨rfl, rfl, rfl, by decide +kernel, rfl, by decide +kernel, by decide +kernel⟩
abbrev s_stages : Stmt := topS 17
theorem sc_stages : GScope ["row", "commands", "present", "first", "last"] ["row", "commands"] (defScope s_stages) := ⟨rfl, rfl, rfl, by decide +kernel, rfl, by decide +kernel, by decide +kernel⟩
abbrev s_is_at_most : Stmt := topS 18
theorem sc_is_at_most : FnScope ["first", "second", "lead", "mine", "other", "limit"] ["first", "second"] (defScope s_is_at_most) := ⟨rfl, rfl, rfl, by decide +kernel, rfl, by decide +kernel, by decide +kernel⟩
abbrev s_inversions : Stmt := topS 19
theorem sc_inversions : FnScope ["row", "many", "place", "value", "later"] ["row"] (defScope s_inversions) := ⟨rfl, rfl, rfl, by decide +kernel, rfl, by decide +kernel, by decide +kernel⟩
abbrev s_law_rng : Stmt := topS 21
theorem sc_law_rng : FnScope ["script", "digits", "seed", "cell", "far"] ["script"] (defScope s_law_rng) := ⟨rfl, rfl, rfl, by decide +kernel, rfl, by decide +kernel, by decide +kernel⟩
abbrev s_law_draw : Stmt := topS 22
theorem sc_law_draw : FnScope ["rng", "limit", "found", "mixed"] ["rng", "limit"] (defScope s_law_draw) := ⟨rfl, rfl, rfl, by decide +kernel, rfl, by decide +kernel, by decide +kernel⟩
abbrev s_law_commands : Stmt := topS 23
theorem sc_law_commands : FnScope ["rng", "wide", "most", "found", "turn", "early", "late", "again"] ["rng", "wide", "most"] (defScope s_law_commands) := ⟨rfl, rfl, rfl, by decide +kernel, rfl, by decide +kernel, by decide +kernel⟩
abbrev s_law_arranged : Stmt := topS 24
theorem sc_law_arranged : FnScope ["rng", "wide", "left", "found"] ["rng", "wide"] (defScope s_law_arranged) := ⟨rfl, rfl, rfl, by decide +kernel, rfl, by decide +kernel, by decide +kernel⟩
abbrev s_law_kind : Stmt := topS 25
theorem sc_law_kind : FnScope ["caught", "names", "flags"] ["caught"] (defScope s_law_kind) := ⟨rfl, rfl, rfl, by decide +kernel, rfl, by decide +kernel, by decide +kernel⟩
abbrev s_law_bad_commands : Stmt := topS 26
theorem sc_law_bad_commands : FnScope ["rng", "wide", "some", "found", "turn", "far", "wrong", "bad", "spot", "early", "late"] ["rng", "wide", "some"] (defScope s_law_bad_commands) := ⟨rfl, rfl, rfl, by decide +kernel, rfl, by decide +kernel, by decide +kernel⟩
abbrev s_law_bad_row : Stmt := topS 27
theorem sc_law_bad_row : FnScope ["rng", "line", "found", "turn", "spot", "far", "entry", "seen", "bad"] ["rng", "line"] (defScope s_law_bad_row) := ⟨rfl, rfl, rfl, by decide +kernel, rfl, by decide +kernel, by decide +kernel⟩
abbrev s_law_told : Stmt := topS 28
theorem sc_law_told : FnScope ["way", "one", "other", "caught", "e"] ["way", "one", "other"] (defScope s_law_told) := ⟨rfl, rfl, rfl, by decide +kernel, rfl, by decide +kernel, by decide +kernel⟩
abbrev s_law_first : Stmt := topS 29
theorem sc_law_first : FnScope ["one", "other", "present", "e"] ["one", "other"] (defScope s_law_first) := ⟨rfl, rfl, rfl, by decide +kernel, rfl, by decide +kernel, by decide +kernel⟩
abbrev s_law_built_right : Stmt := topS 30
theorem sc_law_built_right : FnScope ["thing", "made", "names", "one", "name"] ["thing"] (defScope s_law_built_right) := ⟨rfl, rfl, rfl, by decide +kernel, rfl, by decide +kernel, by decide +kernel⟩
abbrev s_law : Stmt := topS 31
theorem sc_law : FnScope ["script", "rng", "lap", "wide", "line", "some", "wrong", "kept", "due", "told", "one", "early", "far", "other", "late", "way"] ["script"] (defScope s_law) := ⟨rfl, rfl, rfl, by decide +kernel, rfl, by decide +kernel, by decide +kernel⟩
abbrev s_InvalidCommand_i : Stmt := inClass (topS 3) 0
abbrev s_InvalidNumber_i : Stmt := inClass (topS 5) 0
abbrev s_InvalidRow_i : Stmt := inClass (topS 4) 0
abbrev s_InvalidSize_i : Stmt := inClass (topS 2) 0
abbrev s_NothingToUndo_i : Stmt := inClass (topS 7) 0
abbrev s_UnequalSizes_i : Stmt := inClass (topS 6) 0
abbrev s_Unreadable_i : Stmt := inClass (topS 8) 0
theorem sc_InvalidCommand_i : FnScope ["self", "value"] ["self", "value"] (defScope s_InvalidCommand_i) := ⟨rfl, rfl, rfl, by decide +kernel, rfl, by decide +kernel, by decide +kernel⟩
theorem sc_InvalidNumber_i : FnScope ["self", "value"] ["self", "value"] (defScope s_InvalidNumber_i) := ⟨rfl, rfl, rfl, by decide +kernel, rfl, by decide +kernel, by decide +kernel⟩
theorem sc_InvalidRow_i : FnScope ["self", "value"] ["self", "value"] (defScope s_InvalidRow_i) := ⟨rfl, rfl, rfl, by decide +kernel, rfl, by decide +kernel, by decide +kernel⟩
theorem sc_InvalidSize_i : FnScope ["self", "value"] ["self", "value"] (defScope s_InvalidSize_i) := ⟨rfl, rfl, rfl, by decide +kernel, rfl, by decide +kernel, by decide +kernel⟩
theorem sc_NothingToUndo_i : FnScope ["self", "value"] ["self", "value"] (defScope s_NothingToUndo_i) := ⟨rfl, rfl, rfl, by decide +kernel, rfl, by decide +kernel, by decide +kernel⟩
theorem sc_UnequalSizes_i : FnScope ["self", "value"] ["self", "value"] (defScope s_UnequalSizes_i) := ⟨rfl, rfl, rfl, by decide +kernel, rfl, by decide +kernel, by decide +kernel⟩
theorem sc_Unreadable_i : FnScope ["self", "value"] ["self", "value"] (defScope s_Unreadable_i) := ⟨rfl, rfl, rfl, by decide +kernel, rfl, by decide +kernel, by decide +kernel⟩
structure Txt (K : PySem.W.Frag) (mg : Str → Option Value) where
  InvalidCommand_a : Addr
  InvalidCommand_g : mg "InvalidCommand" = some (.ref InvalidCommand_a)
  InvalidNumber_a : Addr
  InvalidNumber_g : mg "InvalidNumber" = some (.ref InvalidNumber_a)
  InvalidRow_a : Addr
  InvalidRow_g : mg "InvalidRow" = some (.ref InvalidRow_a)
  InvalidSize_a : Addr
  InvalidSize_g : mg "InvalidSize" = some (.ref InvalidSize_a)
  NothingToUndo_a : Addr
  NothingToUndo_g : mg "NothingToUndo" = some (.ref NothingToUndo_a)
  SortError_a : Addr
  SortError_g : mg "SortError" = some (.ref SortError_a)
  UnequalSizes_a : Addr
  UnequalSizes_g : mg "UnequalSizes" = some (.ref UnequalSizes_a)
  Unreadable_a : Addr
  Unreadable_g : mg "Unreadable" = some (.ref Unreadable_a)
  InvalidCommand_i_a : Addr
  InvalidCommand_i_d : FuncData
  InvalidCommand_i_F : Fun K "__init__" "InvalidCommand.__init__" s_InvalidCommand_i InvalidCommand_i_a InvalidCommand_i_d
  InvalidCommand_i_b : Binds K InvalidCommand_i_d ["self", "value"] []
  InvalidCommand_i_kb : KBinds K InvalidCommand_i_d ["self", "value"] ["value"] (fun (us ws : List Value) => match us, ws with | [u0], [w0] => [u0, w0] | _, _ => []) (fun (us ws : List V) => match us, ws with | [u0], [w0] => [u0, w0] | _, _ => [])
  InvalidCommand_X : ExcC K InvalidCommand_a
  InvalidCommand_is_InvalidCommand : PySem.W.kitOne K (.ref InvalidCommand_a) (.ref InvalidCommand_a) = some true
  InvalidCommand_is_InvalidNumber : PySem.W.kitOne K (.ref InvalidCommand_a) (.ref InvalidNumber_a) = some false
  InvalidCommand_is_InvalidRow : PySem.W.kitOne K (.ref InvalidCommand_a) (.ref InvalidRow_a) = some false
  InvalidCommand_is_InvalidSize : PySem.W.kitOne K (.ref InvalidCommand_a) (.ref InvalidSize_a) = some false
  InvalidCommand_is_NothingToUndo : PySem.W.kitOne K (.ref InvalidCommand_a) (.ref NothingToUndo_a) = some false
  InvalidCommand_is_SortError : PySem.W.kitOne K (.ref InvalidCommand_a) (.ref SortError_a) = some true
  InvalidCommand_is_UnequalSizes : PySem.W.kitOne K (.ref InvalidCommand_a) (.ref UnequalSizes_a) = some false
  InvalidCommand_is_Unreadable : PySem.W.kitOne K (.ref InvalidCommand_a) (.ref Unreadable_a) = some false
  InvalidCommand_is_ValueError : PySem.W.kitOne K (.ref InvalidCommand_a) (.type "ValueError") = some true
  InvalidCommand_E : ErrC K mg "InvalidCommand" SortError_a InvalidCommand_a InvalidCommand_i_a
  InvalidCommand_st : NoSt K (.ref InvalidCommand_a)
  InvalidNumber_i_a : Addr
  InvalidNumber_i_d : FuncData
  InvalidNumber_i_F : Fun K "__init__" "InvalidNumber.__init__" s_InvalidNumber_i InvalidNumber_i_a InvalidNumber_i_d
  InvalidNumber_i_b : Binds K InvalidNumber_i_d ["self", "value"] []
  InvalidNumber_i_kb : KBinds K InvalidNumber_i_d ["self", "value"] ["value"] (fun (us ws : List Value) => match us, ws with | [u0], [w0] => [u0, w0] | _, _ => []) (fun (us ws : List V) => match us, ws with | [u0], [w0] => [u0, w0] | _, _ => [])
  InvalidNumber_X : ExcC K InvalidNumber_a
  InvalidNumber_is_InvalidCommand : PySem.W.kitOne K (.ref InvalidNumber_a) (.ref InvalidCommand_a) = some false
  InvalidNumber_is_InvalidNumber : PySem.W.kitOne K (.ref InvalidNumber_a) (.ref InvalidNumber_a) = some true
  InvalidNumber_is_InvalidRow : PySem.W.kitOne K (.ref InvalidNumber_a) (.ref InvalidRow_a) = some false
  InvalidNumber_is_InvalidSize : PySem.W.kitOne K (.ref InvalidNumber_a) (.ref InvalidSize_a) = some false
  InvalidNumber_is_NothingToUndo : PySem.W.kitOne K (.ref InvalidNumber_a) (.ref NothingToUndo_a) = some false
  InvalidNumber_is_SortError : PySem.W.kitOne K (.ref InvalidNumber_a) (.ref SortError_a) = some true
  InvalidNumber_is_UnequalSizes : PySem.W.kitOne K (.ref InvalidNumber_a) (.ref UnequalSizes_a) = some false
  InvalidNumber_is_Unreadable : PySem.W.kitOne K (.ref InvalidNumber_a) (.ref Unreadable_a) = some false
  InvalidNumber_is_ValueError : PySem.W.kitOne K (.ref InvalidNumber_a) (.type "ValueError") = some true
  InvalidNumber_E : ErrC K mg "InvalidNumber" SortError_a InvalidNumber_a InvalidNumber_i_a
  InvalidNumber_st : NoSt K (.ref InvalidNumber_a)
  InvalidRow_i_a : Addr
  InvalidRow_i_d : FuncData
  InvalidRow_i_F : Fun K "__init__" "InvalidRow.__init__" s_InvalidRow_i InvalidRow_i_a InvalidRow_i_d
  InvalidRow_i_b : Binds K InvalidRow_i_d ["self", "value"] []
  InvalidRow_i_kb : KBinds K InvalidRow_i_d ["self", "value"] ["value"] (fun (us ws : List Value) => match us, ws with | [u0], [w0] => [u0, w0] | _, _ => []) (fun (us ws : List V) => match us, ws with | [u0], [w0] => [u0, w0] | _, _ => [])
  InvalidRow_X : ExcC K InvalidRow_a
  InvalidRow_is_InvalidCommand : PySem.W.kitOne K (.ref InvalidRow_a) (.ref InvalidCommand_a) = some false
  InvalidRow_is_InvalidNumber : PySem.W.kitOne K (.ref InvalidRow_a) (.ref InvalidNumber_a) = some false
  InvalidRow_is_InvalidRow : PySem.W.kitOne K (.ref InvalidRow_a) (.ref InvalidRow_a) = some true
  InvalidRow_is_InvalidSize : PySem.W.kitOne K (.ref InvalidRow_a) (.ref InvalidSize_a) = some false
  InvalidRow_is_NothingToUndo : PySem.W.kitOne K (.ref InvalidRow_a) (.ref NothingToUndo_a) = some false
  InvalidRow_is_SortError : PySem.W.kitOne K (.ref InvalidRow_a) (.ref SortError_a) = some true
  InvalidRow_is_UnequalSizes : PySem.W.kitOne K (.ref InvalidRow_a) (.ref UnequalSizes_a) = some false
  InvalidRow_is_Unreadable : PySem.W.kitOne K (.ref InvalidRow_a) (.ref Unreadable_a) = some false
  InvalidRow_is_ValueError : PySem.W.kitOne K (.ref InvalidRow_a) (.type "ValueError") = some true
  InvalidRow_E : ErrC K mg "InvalidRow" SortError_a InvalidRow_a InvalidRow_i_a
  InvalidRow_st : NoSt K (.ref InvalidRow_a)
  InvalidSize_i_a : Addr
  InvalidSize_i_d : FuncData
  InvalidSize_i_F : Fun K "__init__" "InvalidSize.__init__" s_InvalidSize_i InvalidSize_i_a InvalidSize_i_d
  InvalidSize_i_b : Binds K InvalidSize_i_d ["self", "value"] []
  InvalidSize_i_kb : KBinds K InvalidSize_i_d ["self", "value"] ["value"] (fun (us ws : List Value) => match us, ws with | [u0], [w0] => [u0, w0] | _, _ => []) (fun (us ws : List V) => match us, ws with | [u0], [w0] => [u0, w0] | _, _ => [])
  InvalidSize_X : ExcC K InvalidSize_a
  InvalidSize_is_InvalidCommand : PySem.W.kitOne K (.ref InvalidSize_a) (.ref InvalidCommand_a) = some false
  InvalidSize_is_InvalidNumber : PySem.W.kitOne K (.ref InvalidSize_a) (.ref InvalidNumber_a) = some false
  InvalidSize_is_InvalidRow : PySem.W.kitOne K (.ref InvalidSize_a) (.ref InvalidRow_a) = some false
  InvalidSize_is_InvalidSize : PySem.W.kitOne K (.ref InvalidSize_a) (.ref InvalidSize_a) = some true
  InvalidSize_is_NothingToUndo : PySem.W.kitOne K (.ref InvalidSize_a) (.ref NothingToUndo_a) = some false
  InvalidSize_is_SortError : PySem.W.kitOne K (.ref InvalidSize_a) (.ref SortError_a) = some true
  InvalidSize_is_UnequalSizes : PySem.W.kitOne K (.ref InvalidSize_a) (.ref UnequalSizes_a) = some false
  InvalidSize_is_Unreadable : PySem.W.kitOne K (.ref InvalidSize_a) (.ref Unreadable_a) = some false
  InvalidSize_is_ValueError : PySem.W.kitOne K (.ref InvalidSize_a) (.type "ValueError") = some true
  InvalidSize_E : ErrC K mg "InvalidSize" SortError_a InvalidSize_a InvalidSize_i_a
  InvalidSize_st : NoSt K (.ref InvalidSize_a)
  NothingToUndo_i_a : Addr
  NothingToUndo_i_d : FuncData
  NothingToUndo_i_F : Fun K "__init__" "NothingToUndo.__init__" s_NothingToUndo_i NothingToUndo_i_a NothingToUndo_i_d
  NothingToUndo_i_b : Binds K NothingToUndo_i_d ["self", "value"] []
  NothingToUndo_i_kb : KBinds K NothingToUndo_i_d ["self", "value"] ["value"] (fun (us ws : List Value) => match us, ws with | [u0], [w0] => [u0, w0] | _, _ => []) (fun (us ws : List V) => match us, ws with | [u0], [w0] => [u0, w0] | _, _ => [])
  NothingToUndo_X : ExcC K NothingToUndo_a
  NothingToUndo_is_InvalidCommand : PySem.W.kitOne K (.ref NothingToUndo_a) (.ref InvalidCommand_a) = some false
  NothingToUndo_is_InvalidNumber : PySem.W.kitOne K (.ref NothingToUndo_a) (.ref InvalidNumber_a) = some false
  NothingToUndo_is_InvalidRow : PySem.W.kitOne K (.ref NothingToUndo_a) (.ref InvalidRow_a) = some false
  NothingToUndo_is_InvalidSize : PySem.W.kitOne K (.ref NothingToUndo_a) (.ref InvalidSize_a) = some false
  NothingToUndo_is_NothingToUndo : PySem.W.kitOne K (.ref NothingToUndo_a) (.ref NothingToUndo_a) = some true
  NothingToUndo_is_SortError : PySem.W.kitOne K (.ref NothingToUndo_a) (.ref SortError_a) = some true
  NothingToUndo_is_UnequalSizes : PySem.W.kitOne K (.ref NothingToUndo_a) (.ref UnequalSizes_a) = some false
  NothingToUndo_is_Unreadable : PySem.W.kitOne K (.ref NothingToUndo_a) (.ref Unreadable_a) = some false
  NothingToUndo_is_ValueError : PySem.W.kitOne K (.ref NothingToUndo_a) (.type "ValueError") = some true
  NothingToUndo_E : ErrC K mg "NothingToUndo" SortError_a NothingToUndo_a NothingToUndo_i_a
  NothingToUndo_st : NoSt K (.ref NothingToUndo_a)
  UnequalSizes_i_a : Addr
  UnequalSizes_i_d : FuncData
  UnequalSizes_i_F : Fun K "__init__" "UnequalSizes.__init__" s_UnequalSizes_i UnequalSizes_i_a UnequalSizes_i_d
  UnequalSizes_i_b : Binds K UnequalSizes_i_d ["self", "value"] []
  UnequalSizes_i_kb : KBinds K UnequalSizes_i_d ["self", "value"] ["value"] (fun (us ws : List Value) => match us, ws with | [u0], [w0] => [u0, w0] | _, _ => []) (fun (us ws : List V) => match us, ws with | [u0], [w0] => [u0, w0] | _, _ => [])
  UnequalSizes_X : ExcC K UnequalSizes_a
  UnequalSizes_is_InvalidCommand : PySem.W.kitOne K (.ref UnequalSizes_a) (.ref InvalidCommand_a) = some false
  UnequalSizes_is_InvalidNumber : PySem.W.kitOne K (.ref UnequalSizes_a) (.ref InvalidNumber_a) = some false
  UnequalSizes_is_InvalidRow : PySem.W.kitOne K (.ref UnequalSizes_a) (.ref InvalidRow_a) = some false
  UnequalSizes_is_InvalidSize : PySem.W.kitOne K (.ref UnequalSizes_a) (.ref InvalidSize_a) = some false
  UnequalSizes_is_NothingToUndo : PySem.W.kitOne K (.ref UnequalSizes_a) (.ref NothingToUndo_a) = some false
  UnequalSizes_is_SortError : PySem.W.kitOne K (.ref UnequalSizes_a) (.ref SortError_a) = some true
  UnequalSizes_is_UnequalSizes : PySem.W.kitOne K (.ref UnequalSizes_a) (.ref UnequalSizes_a) = some true
  UnequalSizes_is_Unreadable : PySem.W.kitOne K (.ref UnequalSizes_a) (.ref Unreadable_a) = some false
  UnequalSizes_is_ValueError : PySem.W.kitOne K (.ref UnequalSizes_a) (.type "ValueError") = some true
  UnequalSizes_E : ErrC K mg "UnequalSizes" SortError_a UnequalSizes_a UnequalSizes_i_a
  UnequalSizes_st : NoSt K (.ref UnequalSizes_a)
  Unreadable_i_a : Addr
  Unreadable_i_d : FuncData
  Unreadable_i_F : Fun K "__init__" "Unreadable.__init__" s_Unreadable_i Unreadable_i_a Unreadable_i_d
  Unreadable_i_b : Binds K Unreadable_i_d ["self", "value"] []
  Unreadable_i_kb : KBinds K Unreadable_i_d ["self", "value"] ["value"] (fun (us ws : List Value) => match us, ws with | [u0], [w0] => [u0, w0] | _, _ => []) (fun (us ws : List V) => match us, ws with | [u0], [w0] => [u0, w0] | _, _ => [])
  Unreadable_X : ExcC K Unreadable_a
  Unreadable_is_InvalidCommand : PySem.W.kitOne K (.ref Unreadable_a) (.ref InvalidCommand_a) = some false
  Unreadable_is_InvalidNumber : PySem.W.kitOne K (.ref Unreadable_a) (.ref InvalidNumber_a) = some false
  Unreadable_is_InvalidRow : PySem.W.kitOne K (.ref Unreadable_a) (.ref InvalidRow_a) = some false
  Unreadable_is_InvalidSize : PySem.W.kitOne K (.ref Unreadable_a) (.ref InvalidSize_a) = some false
  Unreadable_is_NothingToUndo : PySem.W.kitOne K (.ref Unreadable_a) (.ref NothingToUndo_a) = some false
  Unreadable_is_SortError : PySem.W.kitOne K (.ref Unreadable_a) (.ref SortError_a) = some true
  Unreadable_is_UnequalSizes : PySem.W.kitOne K (.ref Unreadable_a) (.ref UnequalSizes_a) = some false
  Unreadable_is_Unreadable : PySem.W.kitOne K (.ref Unreadable_a) (.ref Unreadable_a) = some true
  Unreadable_is_ValueError : PySem.W.kitOne K (.ref Unreadable_a) (.type "ValueError") = some true
  Unreadable_E : ErrC K mg "Unreadable" SortError_a Unreadable_a Unreadable_i_a
  Unreadable_st : NoSt K (.ref Unreadable_a)
  check_size_a : Addr
  check_size_d : FuncData
  check_size_F : Fun K "check_size" "check_size" s_check_size check_size_a check_size_d
  check_size_b : Binds K check_size_d ["size"] []
  check_size_g : mg "check_size" = some (.ref check_size_a)
  check_script_a : Addr
  check_script_d : FuncData
  check_script_F : Fun K "check_script" "check_script" s_check_script check_script_a check_script_d
  check_script_b : Binds K check_script_d ["size", "commands"] []
  check_script_g : mg "check_script" = some (.ref check_script_a)
  check_sized_script_a : Addr
  check_sized_script_d : FuncData
  check_sized_script_F : Fun K "check_sized_script" "check_sized_script" s_check_sized_script check_sized_script_a check_sized_script_d
  check_sized_script_b : Binds K check_sized_script_d ["size", "commands"] []
  check_sized_script_g : mg "check_sized_script" = some (.ref check_sized_script_a)
  check_arrangement_a : Addr
  check_arrangement_d : FuncData
  check_arrangement_F : Fun K "check_arrangement" "check_arrangement" s_check_arrangement check_arrangement_a check_arrangement_d
  check_arrangement_b : Binds K check_arrangement_d ["row"] []
  check_arrangement_g : mg "check_arrangement" = some (.ref check_arrangement_a)
  sort_stretches_a : Addr
  sort_stretches_d : FuncData
  sort_stretches_F : Fun K "sort_stretches" "sort_stretches" s_sort_stretches sort_stretches_a sort_stretches_d
  sort_stretches_b : Binds K sort_stretches_d ["row", "commands"] []
  sort_stretches_g : mg "sort_stretches" = some (.ref sort_stretches_a)
  run_a : Addr
  run_d : FuncData
  run_F : Fun K "run" "run" s_run run_a run_d
  run_b : Binds K run_d ["row", "commands"] []
  run_g : mg "run" = some (.ref run_a)
  stages_a : Addr
  stages_d : FuncData
  stages_F : Fun K "stages" "stages" s_stages stages_a stages_d
  stages_b : Binds K stages_d ["row", "commands"] []
  stages_g : mg "stages" = some (.ref stages_a)
  is_at_most_a : Addr
  is_at_most_d : FuncData
  is_at_most_F : Fun K "is_at_most" "is_at_most" s_is_at_most is_at_most_a is_at_most_d
  is_at_most_b : Binds K is_at_most_d ["first", "second"] []
  is_at_most_g : mg "is_at_most" = some (.ref is_at_most_a)
  inversions_a : Addr
  inversions_d : FuncData
  inversions_F : Fun K "inversions" "inversions" s_inversions inversions_a inversions_d
  inversions_b : Binds K inversions_d ["row"] []
  inversions_g : mg "inversions" = some (.ref inversions_a)
  law_rng_a : Addr
  law_rng_d : FuncData
  law_rng_F : Fun K "_law_rng" "_law_rng" s_law_rng law_rng_a law_rng_d
  law_rng_b : Binds K law_rng_d ["script"] []
  law_rng_g : mg "_law_rng" = some (.ref law_rng_a)
  law_draw_a : Addr
  law_draw_d : FuncData
  law_draw_F : Fun K "_law_draw" "_law_draw" s_law_draw law_draw_a law_draw_d
  law_draw_b : Binds K law_draw_d ["rng", "limit"] []
  law_draw_g : mg "_law_draw" = some (.ref law_draw_a)
  law_commands_a : Addr
  law_commands_d : FuncData
  law_commands_F : Fun K "_law_commands" "_law_commands" s_law_commands law_commands_a law_commands_d
  law_commands_b : Binds K law_commands_d ["rng", "wide", "most"] []
  law_commands_g : mg "_law_commands" = some (.ref law_commands_a)
  law_arranged_a : Addr
  law_arranged_d : FuncData
  law_arranged_F : Fun K "_law_arranged" "_law_arranged" s_law_arranged law_arranged_a law_arranged_d
  law_arranged_b : Binds K law_arranged_d ["rng", "wide"] []
  law_arranged_g : mg "_law_arranged" = some (.ref law_arranged_a)
  law_kind_a : Addr
  law_kind_d : FuncData
  law_kind_F : Fun K "_law_kind" "_law_kind" s_law_kind law_kind_a law_kind_d
  law_kind_b : Binds K law_kind_d ["caught"] []
  law_kind_g : mg "_law_kind" = some (.ref law_kind_a)
  law_bad_commands_a : Addr
  law_bad_commands_d : FuncData
  law_bad_commands_F : Fun K "_law_bad_commands" "_law_bad_commands" s_law_bad_commands law_bad_commands_a law_bad_commands_d
  law_bad_commands_b : Binds K law_bad_commands_d ["rng", "wide", "some"] []
  law_bad_commands_g : mg "_law_bad_commands" = some (.ref law_bad_commands_a)
  law_bad_row_a : Addr
  law_bad_row_d : FuncData
  law_bad_row_F : Fun K "_law_bad_row" "_law_bad_row" s_law_bad_row law_bad_row_a law_bad_row_d
  law_bad_row_b : Binds K law_bad_row_d ["rng", "line"] []
  law_bad_row_g : mg "_law_bad_row" = some (.ref law_bad_row_a)
  law_told_a : Addr
  law_told_d : FuncData
  law_told_F : Fun K "_law_told" "_law_told" s_law_told law_told_a law_told_d
  law_told_b : Binds K law_told_d ["way", "one", "other"] []
  law_told_g : mg "_law_told" = some (.ref law_told_a)
  law_first_a : Addr
  law_first_d : FuncData
  law_first_F : Fun K "_law_first" "_law_first" s_law_first law_first_a law_first_d
  law_first_b : Binds K law_first_d ["one", "other"] []
  law_first_g : mg "_law_first" = some (.ref law_first_a)
  law_built_right_a : Addr
  law_built_right_d : FuncData
  law_built_right_F : Fun K "_law_built_right" "_law_built_right" s_law_built_right law_built_right_a law_built_right_d
  law_built_right_b : Binds K law_built_right_d ["thing"] []
  law_built_right_g : mg "_law_built_right" = some (.ref law_built_right_a)
  law_a : Addr
  law_d : FuncData
  law_F : Fun K "law" "law" s_law law_a law_d
  law_b : Binds K law_d ["script"] []
  law_g : mg "law" = some (.ref law_a)
  k_is_at_most_second_first : KBinds K is_at_most_d ["first", "second"] ["second", "first"] (fun (us ws : List Value) => match us, ws with | [], [w0, w1] => [w1, w0] | _, _ => []) (fun (us ws : List V) => match us, ws with | [], [w0, w1] => [w1, w0] | _, _ => [])
  k_run_commands_row : KBinds K run_d ["row", "commands"] ["commands", "row"] (fun (us ws : List Value) => match us, ws with | [], [w0, w1] => [w1, w0] | _, _ => []) (fun (us ws : List V) => match us, ws with | [], [w0, w1] => [w1, w0] | _, _ => [])
  m_ValueError : mg "ValueError" = none
  m_abs : mg "abs" = none
  m_enumerate : mg "enumerate" = none
  m_isinstance : mg "isinstance" = none
  m_len : mg "len" = none
  m_list : mg "list" = none
  m_min : mg "min" = none
  m_range : mg "range" = none
  m_repr : mg "repr" = none
  m_set : mg "set" = none
  m_sorted : mg "sorted" = none
  m_zip : mg "zip" = none
section
variable {P : Program} {w : World} {K : PySem.W.Frag} {mg : Str → Option Value} {base : Heap}
def asc (n : Nat) : List Int := (List.range n).map fun (i : Nat) => (1 + i : Int)
theorem asc_length (n : Nat) : (asc n).length = n := by simp [asc]
theorem asc_nodup (n : Nat) : (asc n).Nodup := by
  unfold asc
  rw [List.Nodup, List.pairwise_map]
  exact List.nodup_range.imp fun h q => h (by omega)
theorem rg_asc (n : Nat) : rgV 1 (n + 1) = (asc n).map V.int := by
  unfold rgV asc
  rw [show ((n : Int) + 1 - 1).toNat = n by omega, List.map_map]
  rfl
theorem asc_small {n : Nat} (hn : n ≤ 1000) {i : Int} (h : i ∈ asc n) : i.natAbs ≤ 10 ^ 30 := by
  unfold asc at h
  obtain ⟨k, hk, rfl⟩ := List.mem_map.mp h
  have := List.mem_range.mp hk
  have : (1 + (k : Int)).natAbs ≤ 1000 := by omega
  exact Nat.le_trans this (by decide)
def Rng (H : Hp) (r : Addr) (m : Nat) : Prop := ∃ a b c : Int, H r = some (.lst [.int a, .int b, .int c]) ∧ 0 ≤ a ∧ 0 ≤ b ∧ b < 2 ^ 61 ∧ 0 ≤ c ∧ c ≤ m
theorem grow {d : Int} {i : Nat} (hd : 0 ≤ d) (hb : d.natAbs < 2 ^ (200 * i + 200)) (f : Int) : (d * 10 ^ Int.toNat 60 + f % 10 ^ Int.toNat 60).natAbs < 2 ^ (200 * (i + 1) + 200) := by
  have h1 := Int.emod_nonneg f (show (10 : Int) ^ Int.toNat 60 ≠ 0 by decide)
  have h2 := Int.emod_lt_of_pos f (show (0 : Int) < 10 ^ Int.toNat 60 by decide)
  have h3 : (d + 1) * 10 ^ Int.toNat 60 ≤ (2 ^ (200 * i + 200) : Nat) * (10 ^ Int.toNat 60 : Int) := Int.mul_le_mul_of_nonneg_right (by omega) (by decide)
  have h4 : ((2 ^ (200 * i + 200) : Nat) : Int) * (10 ^ Int.toNat 60 : Int) < ((2 ^ (200 * i + 200) : Nat) : Int) * ((2 ^ 200 : Nat) : Int) := Int.mul_lt_mul_of_pos_left (by decide) (by have := Nat.two_pow_pos (200 * i + 200); omega)
  have h5 : (2 ^ (200 * (i + 1) + 200) : Nat) = 2 ^ (200 * i + 200) * 2 ^ 200 := by rw [← Nat.pow_add]; congr 1
  have h6 := Int.mul_nonneg hd (show (0 : Int) ≤ 10 ^ Int.toNat 60 by decide)
  rw [Int.add_mul, Int.one_mul] at h3
  have h7 : ((2 ^ (200 * i + 200) * 2 ^ 200 : Nat) : Int) = ((2 ^ (200 * i + 200) : Nat) : Int) * ((2 ^ 200 : Nat) : Int) := by rw [Int.natCast_mul]
  rw [h5]
  generalize ((2 ^ (200 * i + 200) : Nat) : Int) * ((2 ^ 200 : Nat) : Int) = B at *
  generalize d * 10 ^ Int.toNat 60 = A at *
  omega
theorem Rng.same {H H' : Hp} {r : Addr} {m : Nat} (h : Rng H r m) (s : Same H H') : Rng H' r m := by
  obtain ⟨a, b, c, h1, h2⟩ := h
  exact ⟨a, b, c, s _ _ h1, h2⟩
theorem Rng.le {H : Hp} {r : Addr} {m n : Nat} (h : Rng H r m) (e : m ≤ n) : Rng H r n := by
  obtain ⟨a, b, c, h1, h2, h3, h4, h5, h6⟩ := h
  exact ⟨a, b, c, h1, h2, h3, h4, h5, by omega⟩
theorem Rng.ne {H : Hp} {r p : Addr} {m : Nat} (h : Rng H r m) (n : H p = none) : p ≠ r := by
  obtain ⟨a, b, c, h1, h2⟩ := h
  exact (ne_of_none h1 n).symm
theorem Rng.free {H H' : Hp} {r p : Addr} {m : Nat} (h : Rng H' r m) (s : Sx r H H') (n : H' p = none) : H p = none := by
  obtain ⟨a, b, c, h1, h2⟩ := h
  exact s.free h1 n
theorem Rng.other {H : Hp} {r p : Addr} {m : Nat} {o : HO} (h : Rng H r m) (n : p ≠ r) : Rng (upd H p o) r m := by
  obtain ⟨a, b, c, h1, h2⟩ := h
  exact ⟨a, b, c, upd_to n.symm h1, h2⟩
open My
theorem at_tab {n k : Nat} {f : Nat → Int} {z : Int} (e : z = (k : Int)) (h : k < n) : atI ((tab n f).map V.int) z = some (.int (f k)) := at_of e (by rw [List.getElem?_map, tab_get h]; rfl)
open My
/-- at ts stand the commands cs, as tuples -/
structure Cm (H : Hp) (ts : List Addr) (cs : List Cmd) : Prop where
  len : ts.length = cs.length
  at_ : ∀ (i : Nat) (t : Addr), ts[i]? = some t → ∃ c, cs[i]? = some c ∧ H t = some (.tup [.int (c.1 : Nat), .int (c.2 : Nat)])
theorem Cm.same {H H' : Hp} {ts : List Addr} {cs : List Cmd} (h : Cm H ts cs) (s : Same H H') : Cm H' ts cs :=
  ⟨h.len, fun i t e => let ⟨c, e1, e2⟩ := h.at_ i t e; ⟨c, e1, s _ _ e2⟩⟩
theorem Cm.put {H : Hp} {ts : List Addr} {cs : List Cmd} {p : Addr} {xs : List V} {o : HO} (h : Cm H ts cs) (hp : H p = some (.lst xs)) : Cm (upd H p o) ts cs :=
  ⟨h.len, fun i t e => let ⟨c, e1, e2⟩ := h.at_ i t e; ⟨c, e1, upd_to (ne_of e2 hp (by intro z; cases z)) e2⟩⟩
theorem Cm.nil {H : Hp} : Cm H [] [] := ⟨rfl, fun i t e => by simp at e⟩
theorem Cm.snoc {H : Hp} {ts : List Addr} {cs : List Cmd} {t : Addr} {c : Cmd} (h : Cm H ts cs) (e : H t = some (.tup [.int (c.1 : Nat), .int (c.2 : Nat)])) : Cm H (ts ++ [t]) (cs ++ [c]) := by
  refine ⟨by rw [List.length_append, List.length_append, h.len]; rfl, fun i t' e' => ?_⟩
  by_cases q : i < ts.length
  · rw [List.getElem?_append_left q] at e'
    obtain ⟨c', e1, e2⟩ := h.at_ i t' e'
    exact ⟨c', by rw [List.getElem?_append_left (h.len ▸ q)]; exact e1, e2⟩
  · rw [List.getElem?_append_right (by omega)] at e'
    have e3 : i - ts.length = 0 := by
      cases hh : i - ts.length with
      | zero => rfl
      | succ k => rw [hh] at e'; simp at e'
    rw [e3] at e'
    cases e'
    exact ⟨c, by rw [List.getElem?_append_right (by have := h.len; omega), ← h.len, e3]; rfl, e⟩
theorem Cm.idx {H : Hp} {ts : List Addr} {cs : List Cmd} (h : Cm H ts cs) {i : Nat} (hi : i < cs.length) : ∃ t, ts[i]? = some t ∧ H t = some (.tup [.int (cs[i].1 : Nat), .int (cs[i].2 : Nat)]) := by
  have hi' : i < ts.length := by rw [h.len]; exact hi
  obtain ⟨c, e1, e2⟩ := h.at_ i _ (List.getElem?_eq_getElem hi')
  rw [List.getElem?_eq_getElem hi] at e1
  cases e1
  exact ⟨_, List.getElem?_eq_getElem hi', e2⟩
theorem Cm.take {H : Hp} {ts : List Addr} {cs : List Cmd} (h : Cm H ts cs) (k : Nat) : Cm H (ts.take k) (cs.take k) := by
  refine ⟨by rw [List.length_take, List.length_take, h.len], fun i t e => ?_⟩
  rw [List.getElem?_take] at e
  split at e
  · rename_i hk
    obtain ⟨c, e1, e2⟩ := h.at_ i t e
    exact ⟨c, by rw [List.getElem?_take, if_pos hk]; exact e1, e2⟩
  · cases e
theorem Cm.drop {H : Hp} {ts : List Addr} {cs : List Cmd} (h : Cm H ts cs) (k : Nat) : Cm H (ts.drop k) (cs.drop k) := by
  refine ⟨by rw [List.length_drop, List.length_drop, h.len], fun i t e => ?_⟩
  rw [List.getElem?_drop] at e
  obtain ⟨c, e1, e2⟩ := h.at_ _ t e
  exact ⟨c, by rw [List.getElem?_drop]; exact e1, e2⟩
/-! the data of a script -/
def dC1 (c : Cmd) : PyData := .tuple [.int (c.1 : Nat), .int (c.2 : Nat)]
abbrev dC (cs : List Cmd) : PyData := .list (cs.map dC1)
theorem dp_cmAll {K : PySem.W.Frag} {H : Hp} : ∀ {ts : List Addr} {cs : List Cmd}, Cm H ts cs → DpAll K H (ts.map V.ref) (cs.map dC1)
  | [], [], _ => .nil
  | [], _ :: _, h => nomatch h.len
  | _ :: _, [], h => nomatch h.len
  | t :: ts, c :: cs, h => by
    obtain ⟨c', e1, e2⟩ := h.at_ 0 t rfl
    cases e1
    refine .cons (.tup (sqT e2) (.cons (.int _) (.cons (.int _) .nil))) (dp_cmAll ⟨by have := h.len; simpa using this, fun i t' e => ?_⟩)
    exact h.at_ (i + 1) t' e
theorem dp_cm {K : PySem.W.Frag} {H : Hp} {a : Addr} {ts : List Addr} {cs : List Cmd} (h : SqL K H a (ts.map V.ref)) (hc : Cm H ts cs) : Dp K H (.ref a) (dC cs) := .lst h (dp_cmAll hc)
theorem lay_cm : ∀ cs : List Cmd, PyData.canLayAll0 (cs.map dC1) = true
  | [] => rfl
  | _ :: r => lay_cm r
theorem depth_cm : ∀ cs : List Cmd, PyData.depthAll (cs.map dC1) ≤ 1
  | [] => by decide
  | c :: r => by
    have := depth_cm r
    show max 1 (PyData.depthAll (r.map dC1)) ≤ 1
    omega
theorem depth_dC (cs : List Cmd) : (dC cs).depth ≤ 2 := by
  have := depth_cm cs
  show PyData.depthAll (cs.map dC1) + 1 ≤ 2
  omega
theorem shaped_dC (cs : List Cmd) : SeqAt.shaped (dC cs) = true := by
  unfold SeqAt.shaped
  rw [Bool.and_eq_true]
  refine ⟨lay_cm cs, ?_⟩
  have := depth_dC cs
  rw [decide_eq_true_eq]
  omega
theorem shaped_nil : SeqAt.shaped (.list []) = true := rfl
theorem r_neNilC {K : PySem.W.Frag} {H : Hp} {a b : Addr} {ts : List Addr} {cs : List Cmd} {Q : VK} (h : SqL K H a (ts.map V.ref)) (hc : Cm H ts cs) (g : SqL K H b []) (q : Q (.bl (!decide (cs = []))) H) : rNeD K (.ref a) (.ref b) H Q := by
  refine ⟨_, _, dp_cm h hc, .lst g .nil, shaped_dC cs, shaped_nil, ?_⟩
  have e : PyData.eqv (dC cs) (.list []) = decide (cs = []) := by cases cs <;> rfl
  rw [e]; exact q
theorem sh_dC {cs : List Cmd} {n : Nat} (h : ∀ c ∈ cs, c.1 ≤ n ∧ c.2 ≤ n) (hn : n ≤ 100000) : Sh (cs.length * 25 + 2) (dC cs) := by
  have := Sh.list (b := 23) (ds := cs.map dC1) fun d hd => by
    obtain ⟨c, hc, rfl⟩ := List.mem_map.mp hd
    have hb := h c hc
    refine (Sh.tuple (b := 8) fun e he => ?_).mono (by show 2 * (8 + 2) + 3 ≤ 23; decide)
    rcases List.mem_cons.mp he with e1 | e1
    · rw [e1]; exact (Sh.int (k := 7) (by decide) (by omega) (by decide)).mono (by decide)
    · rw [List.mem_singleton.mp e1]; exact (Sh.int (k := 7) (by decide) (by omega) (by decide)).mono (by decide)
  rw [List.length_map] at this
  exact this
def pI (ps : List Nat) : List Int := ps.map fun (k : Nat) => (k : Int)
/-- a row after so many rounds -/
def pwr (ps : List Nat) : Nat → List Int → List Int
  | 0, l => l
  | k + 1, l => pwr ps k (nbs l ps)
theorem pwr_fix {ps : List Nat} {l : List Int} (h : nbs l ps = l) : ∀ k, pwr ps k l = l
  | 0 => rfl
  | k + 1 => by show pwr ps k (nbs l ps) = l; rw [h]; exact pwr_fix h k
def rep (k : Nat) (cs : List Cmd) : List Cmd := (List.replicate k cs).flatten
theorem rep_succ (k : Nat) (cs : List Cmd) : rep (k + 1) cs = cs ++ rep k cs := by unfold rep; rw [List.replicate_succ, List.flatten_cons]
theorem rep_add (j k : Nat) (cs : List Cmd) : rep (j + k) cs = rep j cs ++ rep k cs := by unfold rep; rw [← List.flatten_append, List.replicate_append_replicate]
theorem fits_rep {n : Nat} {cs : List Cmd} (h : Fits n cs) (k : Nat) : Fits n (rep k cs) := fun c hc => by
  obtain ⟨l, h1, h2⟩ := List.mem_flatten.mp hc
  rw [List.eq_of_mem_replicate h1] at h2
  exact h c h2
theorem fits_app {n : Nat} {cs ds : List Cmd} (h : Fits n cs) (g : Fits n ds) : Fits n (cs ++ ds) := fun c hc => by
  rcases List.mem_append.mp hc with z | z
  · exact h c z
  · exact g c z
theorem pwr_run {E : List Int} {ps : List Nat} {cs : List Cmd} (hs : Stand E ps) (hc : Fits E.length cs) (he : runM (desc E.length) cs = E) : ∀ (k : Nat) (l : List Int), l.length = E.length → pwr ps k l = runM l (rep k cs)
  | 0, _, _ => rfl
  | k + 1, l, hl => by
    show pwr ps k (nbs l ps) = _
    rw [stand_run hs hl hc he, pwr_run hs hc he k _ (by rw [runM_len (by rw [hl]; exact hc)]; exact hl), rep_succ, runM_app]
theorem Cm.app {H : Hp} {ts us : List Addr} {cs ds : List Cmd} (h : Cm H ts cs) (g : Cm H us ds) : Cm H (ts ++ us) (cs ++ ds) := by
  refine ⟨by rw [List.length_append, List.length_append, h.len, g.len], fun i p e => ?_⟩
  by_cases q : i < ts.length
  · rw [List.getElem?_append_left q] at e
    obtain ⟨c, e1, e2⟩ := h.at_ i p e
    exact ⟨c, by rw [List.getElem?_append_left (h.len ▸ q)]; exact e1, e2⟩
  · rw [List.getElem?_append_right (by omega)] at e
    obtain ⟨c, e1, e2⟩ := g.at_ _ p e
    exact ⟨c, by rw [List.getElem?_append_right (by have := h.len; omega), ← h.len]; exact e1, e2⟩
theorem Cm.reps {H : Hp} {ts : List Addr} {cs : List Cmd} (h : Cm H ts cs) : ∀ k : Nat, Cm H (List.replicate k ts).flatten (rep k cs)
  | 0 => Cm.nil
  | k + 1 => by rw [List.replicate_succ, List.flatten_cons, rep_succ]; exact h.app (Cm.reps h k)
theorem pI_len (ps : List Nat) : (pI ps).length = ps.length := by simp [pI]
theorem Cm.sx {H H' : Hp} {ts : List Addr} {cs : List Cmd} {r : Addr} {m : Nat} (h : Cm H ts cs) (hR : Rng H r m) (s : Sx r H H') : Cm H' ts cs := by
  obtain ⟨a, b, c, hr, _⟩ := hR
  exact ⟨h.len, fun i t e => let ⟨c, e1, e2⟩ := h.at_ i t e; ⟨c, e1, s _ _ (ne_of e2 hr (by intro z; cases z)) e2⟩⟩
open My
/-- all of H but what stands at q is in H' -/
def KeepBut (q : Option Addr) (H H' : Hp) : Prop := ∀ b u, H b = some u → q ≠ some b → H' b = some u
theorem KeepBut.of {H H' : Hp} (s : Same H H') (q : Option Addr) : KeepBut q H H' := fun b u e _ => s b u e
/-- stages, row by row: q, its own row -/
@[reducible] def stgM (K : PySem.W.Frag) (a b : Addr) (ns : List Int) (ts : List Addr) (cs : List Cmd) : Mach where
  S := Option Addr
  n := cs.length + 1
  St := fun i q H => SqL K H b (ts.map V.ref) ∧ Cm H ts cs ∧ (i = 0 → q = none ∧ SqL K H a (ns.map V.int)) ∧ (1 ≤ i → ∃ p, q = some p ∧ H p = some (.lst ((runM ns (cs.take (i - 1))).map V.int)))
  Y := fun i q H x q' H' => ∃ p c, q' = some p ∧ x = .ref c ∧ c ≠ p ∧ H c = none ∧ (q = none → H p = none) ∧ (∀ p0, q = some p0 → p = p0 ∧ ∃ xs, H p0 = some (.lst xs)) ∧ KeepBut q H H' ∧
    H' p = some (.lst ((runM ns (cs.take i)).map V.int)) ∧ H' c = some (.lst ((runM ns (cs.take i)).map V.int))
  tame := fun i q H x q' H' h => by
    obtain ⟨p, c, rfl, rfl, _, _, hq, hp, kb, h1, h2⟩ := h
    cases q with
    | none => exact Tame.of_same fun b u e => kb b u e (by intro z; cases z)
    | some p0 =>
      obtain ⟨rfl, xs, h0⟩ := hp p0 rfl
      exact Tame.of_sx (fun b u e hb => kb b u e (fun z => hb (by cases z; rfl))) h0 h1
/-- at ts stand the pairs ws, as tuples -/
structure Cw (H : Hp) (ts : List Addr) (ws : List Pr) : Prop where
  len : ts.length = ws.length
  at_ : ∀ (i : Nat) (t : Addr), ts[i]? = some t → ∃ c, ws[i]? = some c ∧ H t = some (.tup [.int c.1, .int c.2])
theorem Cw.same {H H' : Hp} {ts : List Addr} {ws : List Pr} (h : Cw H ts ws) (s : Same H H') : Cw H' ts ws :=
  ⟨h.len, fun i t e => let ⟨c, e1, e2⟩ := h.at_ i t e; ⟨c, e1, s _ _ e2⟩⟩
theorem Cw.idx {H : Hp} {ts : List Addr} {ws : List Pr} (h : Cw H ts ws) {i : Nat} (hi : i < ws.length) : ∃ t, ts[i]? = some t ∧ H t = some (.tup [.int ws[i].1, .int ws[i].2]) := by
  have hi' : i < ts.length := by rw [h.len]; exact hi
  obtain ⟨c, e1, e2⟩ := h.at_ i _ (List.getElem?_eq_getElem hi')
  rw [List.getElem?_eq_getElem hi] at e1
  cases e1
  exact ⟨_, List.getElem?_eq_getElem hi', e2⟩
theorem Cm.toCw {H : Hp} {ts : List Addr} {cs : List Cmd} (h : Cm H ts cs) : Cw H ts (cs.map toW) :=
  ⟨by rw [List.length_map]; exact h.len, fun i t e => let ⟨c, e1, e2⟩ := h.at_ i t e; ⟨toW c, by rw [List.getElem?_map, e1]; rfl, e2⟩⟩
theorem Cw.toCm {H : Hp} {ts : List Addr} {cs : List Cmd} (h : Cw H ts (cs.map toW)) : Cm H ts cs :=
  ⟨by have := h.len; rwa [List.length_map] at this, fun i t e => by
    obtain ⟨c, e1, e2⟩ := h.at_ i t e
    rw [List.getElem?_map] at e1
    cases g : cs[i]? with
    | none => rw [g] at e1; cases e1
    | some d => rw [g] at e1; cases e1; exact ⟨d, rfl, e2⟩⟩
/-- an exception of the class at c, its value y -/
def Err (H : Hp) (E : XK) (c : Addr) (y : V) : Prop := ∀ (H' : Hp) (d : Addr), Same H H' → H' d = none → E (.ref c) (some d) (upd H' d (.xd [(("value" : Str), y)]))
theorem Err.up {H H1 : Hp} {E : XK} {c : Addr} {y : V} (h : Err H E c y) (s : Same H H1) : Err H1 E c y := fun H' d s' hd => h H' d (s.trans s') hd
/-- what a script is wrong with, for a size -/
def BadRun (T : Txt K mg) (n : Int) (ws : List Pr) (c : Addr) (y : V) : Prop := (n < 1 ∧ c = T.InvalidSize_a ∧ y = .int n) ∨ (1 ≤ n ∧ ∃ i : Nat, eW n ws = some i ∧ c = T.InvalidCommand_a ∧ y = .int i)
/-- what a row and a script are wrong with -/
def BadGB (T : Txt K mg) (ns : List Int) (ws : List Pr) (c : Addr) (y : V) : Prop := (∃ i : Nat, eR ns = some i ∧ c = T.InvalidRow_a ∧ y = .int i) ∨ (eR ns = none ∧ ∃ i : Nat, eW ns.length ws = some i ∧ c = T.InvalidCommand_a ∧ y = .int i)
/-- what isinstance says of an exception of the class at D, by the classes' names -/
structure Kq (K : PySem.W.Frag) (T : Txt K mg) (D : Addr) (j : Nat) : Prop where
  k0 : PySem.W.kitOne K (.ref D) (.ref T.InvalidSize_a) = some (decide (j = 0))
  k1 : PySem.W.kitOne K (.ref D) (.ref T.InvalidCommand_a) = some (decide (j = 1))
  k2 : PySem.W.kitOne K (.ref D) (.ref T.InvalidRow_a) = some (decide (j = 2))
  k3 : PySem.W.kitOne K (.ref D) (.ref T.InvalidNumber_a) = some (decide (j = 3))
  k4 : PySem.W.kitOne K (.ref D) (.ref T.UnequalSizes_a) = some (decide (j = 4))
  k5 : PySem.W.kitOne K (.ref D) (.ref T.NothingToUndo_a) = some (decide (j = 5))
  k6 : PySem.W.kitOne K (.ref D) (.ref T.Unreadable_a) = some (decide (j = 6))
  k7 : PySem.W.kitOne K (.ref D) (.ref T.SortError_a) = some true
  k8 : PySem.W.kitOne K (.ref D) (.type "ValueError") = some true
  x : ExcC K D
  xf : XfC K D
  no : PySem.W.findIn K (.ref D) "value" = some none
  lt : j < 7
def fgs (j : Nat) : List V := [.bl (decide (j = 0)), .bl (decide (j = 1)), .bl (decide (j = 2)), .bl (decide (j = 3)), .bl (decide (j = 4)), .bl (decide (j = 5)), .bl (decide (j = 6))]
theorem fgs_count {j : Nat} (h : j < 7) : (fgs j).countP (fun z => eqV z (.bl true)) = 1 := by
  have : j = 0 ∨ j = 1 ∨ j = 2 ∨ j = 3 ∨ j = 4 ∨ j = 5 ∨ j = 6 := by omega
  rcases this with e | e | e | e | e | e | e <;> subst e <;> rfl
theorem fgs_at {j : Nat} (h : j < 7) : (fgs j)[j]? = some (.bl true) ∧ ∀ (m : Nat) (z : V), m < j → (fgs j)[m]? = some z → eqV z (.bl true) = false := by
  have : j = 0 ∨ j = 1 ∨ j = 2 ∨ j = 3 ∨ j = 4 ∨ j = 5 ∨ j = 6 := by omega
  refine ⟨?_, fun m z hm e => ?_⟩
  · rcases this with e | e | e | e | e | e | e <;> subst e <;> rfl
  · have hm6 : m = 0 ∨ m = 1 ∨ m = 2 ∨ m = 3 ∨ m = 4 ∨ m = 5 := by omega
    rcases hm6 with q | q | q | q | q | q <;> subst q <;> (cases e; rw [decide_eq_false (by omega)]; rfl)
def nmS (j : Nat) : Str := (["size", "command", "row", "number", "unequal", "undo", "text"] : List Str).getD j "odd"
/-- what two rows are wrong with, the first one first -/
def BadMost (T : Txt K mg) (ns ms : List Int) (c : Addr) (y : V) : Prop := (∃ i : Nat, eR ns = some i ∧ c = T.InvalidRow_a ∧ y = .int i) ∨ (eR ns = none ∧ ∃ i : Nat, eR ms = some i ∧ c = T.InvalidRow_a ∧ y = .int i) ∨ (eR ns = none ∧ eR ms = none ∧ ns.length ≠ ms.length ∧ c = T.UnequalSizes_a ∧ y = .non)
theorem kq_size (T : Txt K mg) : Kq K T T.InvalidSize_a 0 := ⟨T.InvalidSize_is_InvalidSize, T.InvalidSize_is_InvalidCommand, T.InvalidSize_is_InvalidRow, T.InvalidSize_is_InvalidNumber, T.InvalidSize_is_UnequalSizes, T.InvalidSize_is_NothingToUndo, T.InvalidSize_is_Unreadable, T.InvalidSize_is_SortError, T.InvalidSize_is_ValueError, T.InvalidSize_X, T.InvalidSize_E.xf, T.InvalidSize_E.no, by decide⟩
theorem kq_command (T : Txt K mg) : Kq K T T.InvalidCommand_a 1 := ⟨T.InvalidCommand_is_InvalidSize, T.InvalidCommand_is_InvalidCommand, T.InvalidCommand_is_InvalidRow, T.InvalidCommand_is_InvalidNumber, T.InvalidCommand_is_UnequalSizes, T.InvalidCommand_is_NothingToUndo, T.InvalidCommand_is_Unreadable, T.InvalidCommand_is_SortError, T.InvalidCommand_is_ValueError, T.InvalidCommand_X, T.InvalidCommand_E.xf, T.InvalidCommand_E.no, by decide⟩
theorem kq_row (T : Txt K mg) : Kq K T T.InvalidRow_a 2 := ⟨T.InvalidRow_is_InvalidSize, T.InvalidRow_is_InvalidCommand, T.InvalidRow_is_InvalidRow, T.InvalidRow_is_InvalidNumber, T.InvalidRow_is_UnequalSizes, T.InvalidRow_is_NothingToUndo, T.InvalidRow_is_Unreadable, T.InvalidRow_is_SortError, T.InvalidRow_is_ValueError, T.InvalidRow_X, T.InvalidRow_E.xf, T.InvalidRow_E.no, by decide⟩
theorem kq_number (T : Txt K mg) : Kq K T T.InvalidNumber_a 3 := ⟨T.InvalidNumber_is_InvalidSize, T.InvalidNumber_is_InvalidCommand, T.InvalidNumber_is_InvalidRow, T.InvalidNumber_is_InvalidNumber, T.InvalidNumber_is_UnequalSizes, T.InvalidNumber_is_NothingToUndo, T.InvalidNumber_is_Unreadable, T.InvalidNumber_is_SortError, T.InvalidNumber_is_ValueError, T.InvalidNumber_X, T.InvalidNumber_E.xf, T.InvalidNumber_E.no, by decide⟩
theorem kq_unequal (T : Txt K mg) : Kq K T T.UnequalSizes_a 4 := ⟨T.UnequalSizes_is_InvalidSize, T.UnequalSizes_is_InvalidCommand, T.UnequalSizes_is_InvalidRow, T.UnequalSizes_is_InvalidNumber, T.UnequalSizes_is_UnequalSizes, T.UnequalSizes_is_NothingToUndo, T.UnequalSizes_is_Unreadable, T.UnequalSizes_is_SortError, T.UnequalSizes_is_ValueError, T.UnequalSizes_X, T.UnequalSizes_E.xf, T.UnequalSizes_E.no, by decide⟩
theorem kq_undo (T : Txt K mg) : Kq K T T.NothingToUndo_a 5 := ⟨T.NothingToUndo_is_InvalidSize, T.NothingToUndo_is_InvalidCommand, T.NothingToUndo_is_InvalidRow, T.NothingToUndo_is_InvalidNumber, T.NothingToUndo_is_UnequalSizes, T.NothingToUndo_is_NothingToUndo, T.NothingToUndo_is_Unreadable, T.NothingToUndo_is_SortError, T.NothingToUndo_is_ValueError, T.NothingToUndo_X, T.NothingToUndo_E.xf, T.NothingToUndo_E.no, by decide⟩
theorem kq_text (T : Txt K mg) : Kq K T T.Unreadable_a 6 := ⟨T.Unreadable_is_InvalidSize, T.Unreadable_is_InvalidCommand, T.Unreadable_is_InvalidRow, T.Unreadable_is_InvalidNumber, T.Unreadable_is_UnequalSizes, T.Unreadable_is_NothingToUndo, T.Unreadable_is_Unreadable, T.Unreadable_is_SortError, T.Unreadable_is_ValueError, T.Unreadable_X, T.Unreadable_E.xf, T.Unreadable_E.no, by decide⟩
/-- the error that is due: its class's place, and its value -/
def dRun (n : Nat) (ws : List Pr) : Option (Nat × V) := if n < 1 then some (0, .int n) else match eW n ws with
  | some i => some (1, .int i)
  | none => none
def dMost (ns ms : List Int) : Option (Nat × V) := match eR ns with
  | some i => some (2, .int i)
  | none => match eR ms with
    | some i => some (2, .int i)
    | none => if ns.length = ms.length then none else some (4, .non)
def Ans (H H' : Hp) (v : V) (o : Option (Nat × V)) : Prop := (o = none ∧ v = .non) ∨ ∃ (p : Addr) (j : Nat) (y : V), o = some (j, y) ∧ v = .ref p ∧ H p = none ∧ H' p = some (.lst [.str (nmS j), y])
/-- the exceptions that were made, in the order of the classes *-/
def Made (K : PySem.W.Frag) (T : Txt K mg) (H : Hp) (as : List Addr) (y : V) : Prop := ∀ (j : Nat) (a : Addr), as[j]? = some a → ∃ D : Addr, Exn H a D y ∧ Kq K T D (j % 7)
theorem Made.same {T : Txt K mg} {H H' : Hp} {as : List Addr} {y : V} (h : Made K T H as y) (s : Same H H') : Made K T H' as y := fun j a e => let ⟨D, h1, h2⟩ := h j a e; ⟨D, h1.same s, h2⟩
theorem Made.nil {T : Txt K mg} {H : Hp} {y : V} : Made K T H [] y := fun j a e => by simp at e
theorem Made.snoc {T : Txt K mg} {H H' : Hp} {as : List Addr} {y : V} {a D : Addr} {i : Nat} (h : Made K T H as y) (s : Same H H') (hx : Exn H' a D y) (kq : Kq K T D i) (e : i = as.length % 7) : Made K T H' (as ++ [a]) y := fun j b eb => by
  by_cases hj : j < as.length
  · rw [List.getElem?_append_left hj] at eb
    exact h.same s j b eb
  · rw [List.getElem?_append_right (by omega)] at eb
    have e3 : j = as.length := by
      cases hh : j - as.length with
      | zero => omega
      | succ k => rw [hh] at eb; simp at eb
    subst e3
    rw [Nat.sub_self] at eb
    cases eb
    exact ⟨D, hx, e ▸ kq⟩
/-- lists of two, of a word and y each, written one by one into a new list -/
def PrI (H1 : Hp) (D : Addr) (y : V) (f : Nat → Str) (i : Nat) (H : Hp) : Prop := ∃ es : List Addr, es.length = i ∧ H D = some (.lst (es.map V.ref)) ∧ Same H1 H ∧ ∀ (j : Nat) (p : Addr), es[j]? = some p → p ≠ D ∧ H p = some (.lst [.str (f j), y])
theorem pri_nil {H1 : Hp} {D : Addr} {y : V} {f : Nat → Str} (nD : H1 D = none) : PrI H1 D y f 0 (upd H1 D (.lst [])) := ⟨[], rfl, upd_same, same_new nD, fun j p e => by simp at e⟩
theorem PrI.sm {H1 H : Hp} {D : Addr} {y : V} {f : Nat → Str} {i : Nat} (h : PrI H1 D y f i H) : Same H1 H := h.choose_spec.2.2.1
theorem PrI.same {H1 H H' : Hp} {D : Addr} {y : V} {f : Nat → Str} {i : Nat} (h : PrI H1 D y f i H) (s : Same H H') : PrI H1 D y f i H' := let ⟨es, h1, h2, h3, h4⟩ := h; ⟨es, h1, s _ _ h2, h3.trans s, fun j p e => ⟨(h4 j p e).1, s _ _ (h4 j p e).2⟩⟩
theorem pri_put {H1 H H' : Hp} {D : Addr} {y : V} {f : Nat → Str} {i : Nat} {p : Addr} (h : PrI H1 D y f i H) (nD : H1 D = none) (hi : i ≤ 1000) (s : Same H H') (np : H p = none) (hp : H' p = some (.lst [.str (f i), y])) :
    ∃ acc, H' D = some (.lst acc) ∧ acc.length < sizeLine ∧ PrI H1 D y f (i + 1) (upd H' D (.lst (acc ++ [.ref p]))) := by
  obtain ⟨es, hel, hD, sk, hE⟩ := h
  have hpD : p ≠ D := (ne_of_none hD np).symm
  refine ⟨es.map V.ref, s _ _ hD, by rw [List.length_map]; exact size_lt (by omega), es ++ [p], by rw [List.length_append, hel]; rfl, by rw [List.map_append]; exact upd_same, same_old (sk.trans s) nD, fun j u e => ?_⟩
  by_cases q : j < es.length
  · rw [List.getElem?_append_left q] at e
    obtain ⟨h1, h2⟩ := hE j u e
    exact ⟨h1, upd_to h1 (s _ _ h2)⟩
  · rw [List.getElem?_append_right (by omega)] at e
    have ej : j - es.length = 0 := by
      cases z : j - es.length with
      | zero => rfl
      | succ k => rw [z] at e; simp at e
    rw [ej] at e
    cases e
    have : j = i := by omega
    subst this
    exact ⟨hpD, upd_to hpD hp⟩
theorem pri_dp {K : PySem.W.Frag} {H1 H : Hp} {D : Addr} {y : V} {f : Nat → Str} {n : Nat} {dy : PyData} (h : PrI H1 D y f n H) (hy : ∀ H', Dp K H' y dy) : Dp K H (.ref D) (.list ((List.range n).map fun j => .list [.str (f j), dy])) := by
  obtain ⟨es, hel, hD, _, hE⟩ := h
  refine .lst (sq hD) ?_
  have all : ∀ (l : List Addr) (m : Nat), (∀ (j : Nat) (p : Addr), l[j]? = some p → H p = some (.lst [.str (f (m + j)), y])) → DpAll K H (l.map V.ref) ((List.range l.length).map fun j => .list [.str (f (m + j)), dy]) := by
    intro l
    induction l with
    | nil => intro m _; exact .nil
    | cons p l ih =>
      intro m hl
      rw [List.length_cons, List.range_succ_eq_map, List.map_cons, List.map_cons, List.map_map]
      refine .cons (.lst (sq (hl 0 p rfl)) (.cons (.str _) (.cons (hy H) .nil))) ?_
      have := ih (m + 1) fun j q e => by have := hl (j + 1) q e; rw [show m + 1 + j = m + (j + 1) by omega]; exact this
      refine Eq.mp ?_ this
      congr 1
      refine List.map_congr_left fun j _ => ?_
      show _ = PyData.list [.str (f (m + (j + 1))), dy]
      rw [show m + 1 + j = m + (j + 1) by omega]
  have := all es 0 fun j p e => by rw [Nat.zero_add]; exact (hE j p e).2
  rw [hel] at this
  simpa only [Nat.zero_add] using this
theorem nm_ok (j : Nat) : (PyData.str (nmS (j % 7))).canLay0 = true := by
  have h7 : j % 7 < 7 := Nat.mod_lt _ (by decide)
  generalize j % 7 = m at h7 ⊢
  have : m = 0 ∨ m = 1 ∨ m = 2 ∨ m = 3 ∨ m = 4 ∨ m = 5 ∨ m = 6 := by omega
  rcases this with e | e | e | e | e | e | e <;> subst e <;> decide +kernel
theorem d14_lay {dy : PyData} (h : dy.canLay0 = true) : ∀ l : List Nat, PyData.canLayAll0 (l.map fun j => PyData.list [.str (nmS (j % 7)), dy]) = true
  | [] => rfl
  | j :: l => by
    show ((PyData.canLay0 (.str (nmS (j % 7))) && (PyData.canLay0 dy && true)) && PyData.canLayAll0 (l.map _)) = true
    rw [nm_ok, h, d14_lay h l]; rfl
theorem d14_depth {dy : PyData} (h : dy.depth = 0) : ∀ l : List Nat, PyData.depthAll (l.map fun j => PyData.list [.str (nmS (j % 7)), dy]) ≤ 1
  | [] => Nat.zero_le _
  | j :: l => by
    have := d14_depth h l
    show max (max 0 (max (PyData.depth dy) 0) + 1) (PyData.depthAll (l.map _)) ≤ 1
    rw [h]; omega
theorem d14_ok {dy : PyData} (h : dy.canLay0 = true) (h2 : dy.depth = 0) : SeqAt.shaped (.list ((List.range 14).map fun j => .list [.str (nmS (j % 7)), dy])) = true := by
  refine Bool.and_eq_true_iff.mpr ⟨d14_lay h _, decide_eq_true ?_⟩
  have := d14_depth h2 (List.range 14)
  show PyData.depthAll _ + 1 ≤ 64
  omega
theorem nm14 : ∀ i, i < 14 → ([.str "size", .str "command", .str "row", .str "number", .str "unequal", .str "undo", .str "text", .str "size", .str "command", .str "row", .str "number", .str "unequal", .str "undo", .str "text"] : List V)[i]? = some (.str (nmS (i % 7))) := by
  intro i hi
  have : i = 0 ∨ i = 1 ∨ i = 2 ∨ i = 3 ∨ i = 4 ∨ i = 5 ∨ i = 6 ∨ i = 7 ∨ i = 8 ∨ i = 9 ∨ i = 10 ∨ i = 11 ∨ i = 12 ∨ i = 13 := by omega
  rcases this with e | e | e | e | e | e | e | e | e | e | e | e | e | e <;> subst e <;> rfl
def Flat3 (y : V) : Prop := y = .non ∨ (∃ i : Int, y = .int i) ∨ ∃ z : Str, y = .str z ∧ (PyData.str z).canLay0 = true
theorem Cw.sx {H H' : Hp} {ts : List Addr} {ws : List Pr} {r : Addr} {m : Nat} (h : Cw H ts ws) (hR : Rng H r m) (s : Sx r H H') : Cw H' ts ws := by
  obtain ⟨a, b, c, h1, _⟩ := hR
  exact ⟨h.len, fun i u e => let ⟨c, e1, e2⟩ := h.at_ i u e; ⟨c, e1, s _ _ (fun z => by rw [z, h1] at e2; cases e2) e2⟩⟩
theorem Cw.put {H : Hp} {ts : List Addr} {ws : List Pr} {p : Addr} {xs : List V} {o : HO} (h : Cw H ts ws) (hp : H p = some (.lst xs)) : Cw (upd H p o) ts ws :=
  ⟨h.len, fun i t e => let ⟨c, e1, e2⟩ := h.at_ i t e; ⟨c, e1, upd_to (ne_of e2 hp (by intro z; cases z)) e2⟩⟩
theorem Cw.one {H : Hp} {t : Addr} {c : Pr} (h : H t = some (.tup [.int c.1, .int c.2])) : Cw H [t] [c] := ⟨rfl, fun i u e => by
  cases i with
  | zero => cases e; exact ⟨c, rfl, h⟩
  | succ i => simp at e⟩
theorem Cw.app {H : Hp} {ts us : List Addr} {ws vs : List Pr} (h : Cw H ts ws) (g : Cw H us vs) : Cw H (ts ++ us) (ws ++ vs) := by
  refine ⟨by rw [List.length_append, List.length_append, h.len, g.len], fun i t e => ?_⟩
  by_cases q : i < ts.length
  · rw [List.getElem?_append_left q] at e
    obtain ⟨c, e1, e2⟩ := h.at_ i t e
    exact ⟨c, by rw [List.getElem?_append_left (h.len ▸ q)]; exact e1, e2⟩
  · rw [List.getElem?_append_right (by omega)] at e
    obtain ⟨c, e1, e2⟩ := g.at_ _ t e
    exact ⟨c, by rw [List.getElem?_append_right (by rw [← h.len]; omega), ← h.len]; exact e1, e2⟩
theorem Cw.take {H : Hp} {ts : List Addr} {ws : List Pr} (h : Cw H ts ws) (k : Nat) : Cw H (ts.take k) (ws.take k) := by
  refine ⟨by rw [List.length_take, List.length_take, h.len], fun i t e => ?_⟩
  rw [List.getElem?_take] at e
  split at e
  · rename_i hk
    obtain ⟨c, e1, e2⟩ := h.at_ i t e
    exact ⟨c, by rw [List.getElem?_take, if_pos hk]; exact e1, e2⟩
  · cases e
theorem Cw.drop {H : Hp} {ts : List Addr} {ws : List Pr} (h : Cw H ts ws) (k : Nat) : Cw H (ts.drop k) (ws.drop k) := by
  refine ⟨by rw [List.length_drop, List.length_drop, h.len], fun i t e => ?_⟩
  rw [List.getElem?_drop] at e
  obtain ⟨c, e1, e2⟩ := h.at_ _ t e
  exact ⟨c, by rw [List.getElem?_drop]; exact e1, e2⟩
def Nt (i : Int) : Prop := i.natAbs ≤ 10 ^ 30
/-- an index, or None -/
def vIx (o : Option Nat) : V := match o with
  | some i => .int (i : Int)
  | none => .non
/-- the first wrong place of the first i *-/
def fb (ms : List Int) (i : Nat) : Option Nat := ((List.range i).filter (wrR ms)).head?
theorem fb_eR (ms : List Int) : fb ms ms.length = eR ms := rfl
theorem fb_old {ms : List Int} {i j : Nat} (h : fb ms i = some j) : fb ms (i + 1) = some j := by
  unfold fb at *
  rw [List.range_succ, List.filter_append, List.head?_append, h]; rfl
theorem fb_new {ms : List Int} {i : Nat} (h : fb ms i = none) (w : wrR ms i = true) : fb ms (i + 1) = some i := by
  unfold fb at *
  rw [List.range_succ, List.filter_append, List.head?_append, h, List.filter_cons_of_pos w]; rfl
theorem fb_no {ms : List Int} {i : Nat} (h : fb ms i = none) (w : wrR ms i = false) : fb ms (i + 1) = none := by
  unfold fb at *
  rw [List.range_succ, List.filter_append, List.head?_append, h, List.filter_cons_of_neg (by rw [w]; decide)]; rfl
/-- the data of what is due -/
def dV : V → PyData
  | .int i => .int i
  | _ => .none
def dOf : Option (Nat × V) → PyData
  | none => .none
  | some (j, y) => .list [.str (nmS j), dV y]
/-- the values of errors that are due: numbers, or none -/
def OkO (o : Option (Nat × V)) : Prop := ∀ j y, o = some (j, y) → j < 7 ∧ (y = .non ∨ ∃ i : Int, y = .int i ∧ i.natAbs ≤ 10 ^ 30)
def An (H : Hp) (D : Addr) (v : V) (o : Option (Nat × V)) : Prop := (o = none ∧ v = .non) ∨ ∃ (p : Addr) (j : Nat) (y : V), o = some (j, y) ∧ v = .ref p ∧ p ≠ D ∧ H p = some (.lst [.str (nmS j), y])
def AnI (H1 : Hp) (D : Addr) (o : Option (Nat × V)) (i : Nat) (H : Hp) : Prop := ∃ es : List V, es.length = i ∧ H D = some (.lst es) ∧ Same H1 H ∧ ∀ v ∈ es, An H D v o
theorem ani_nil {H1 : Hp} {D : Addr} {o : Option (Nat × V)} (nD : H1 D = none) : AnI H1 D o 0 (upd H1 D (.lst [])) := ⟨[], rfl, upd_same, same_new nD, fun v hv => by cases hv⟩
theorem AnI.sm {H1 H : Hp} {D : Addr} {o : Option (Nat × V)} {i : Nat} (h : AnI H1 D o i H) : Same H1 H := h.choose_spec.2.2.1
theorem An.same {H H' : Hp} {D : Addr} {v : V} {o : Option (Nat × V)} (h : An H D v o) (s : Same H H') : An H' D v o := by
  rcases h with h | ⟨p, j, y, h1, h2, h3, h4⟩
  · exact .inl h
  · exact .inr ⟨p, j, y, h1, h2, h3, s _ _ h4⟩
theorem ani_put {H1 H H' : Hp} {D : Addr} {o : Option (Nat × V)} {i : Nat} {v : V} (h : AnI H1 D o i H) (nD : H1 D = none) (hi : i ≤ 1000) (s : Same H H') (hv : Ans H H' v o) :
    ∃ acc, H' D = some (.lst acc) ∧ acc.length < sizeLine ∧ AnI H1 D o (i + 1) (upd H' D (.lst (acc ++ [v]))) := by
  obtain ⟨es, hel, hD, sk, hE⟩ := h
  refine ⟨es, s _ _ hD, size_lt (by omega), es ++ [v], by rw [List.length_append, hel]; rfl, upd_same, same_old (sk.trans s) nD, fun u hu => ?_⟩
  rcases List.mem_append.mp hu with hu | hu
  · rcases (hE u hu).same s with h | ⟨p, j, y, h1, h2, h3, h4⟩
    · exact .inl h
    · exact .inr ⟨p, j, y, h1, h2, h3, upd_to h3 h4⟩
  · rw [List.mem_singleton.mp hu]
    rcases hv with h | ⟨p, j, y, h1, h2, h3, h4⟩
    · exact .inl h
    · have hp : p ≠ D := (ne_of_none hD h3).symm
      exact .inr ⟨p, j, y, h1, h2, hp, upd_to hp h4⟩
theorem dV_dp {K : PySem.W.Frag} {H : Hp} {y : V} (h : y = .non ∨ ∃ i : Int, y = .int i ∧ i.natAbs ≤ 10 ^ 30) : Dp K H y (dV y) := by
  rcases h with rfl | ⟨i, rfl, _⟩
  · exact .non
  · exact .int i
theorem An.dp {K : PySem.W.Frag} {H : Hp} {D : Addr} {v : V} {o : Option (Nat × V)} (h : An H D v o) (ok : OkO o) : Dp K H v (dOf o) := by
  rcases h with ⟨rfl, rfl⟩ | ⟨p, j, y, rfl, rfl, _, h4⟩
  · exact .non
  · exact .lst (sq h4) (.cons (.str _) (.cons (dV_dp (ok j y rfl).2) .nil))
theorem Ans.dp {K : PySem.W.Frag} {H H' : Hp} {v : V} {o : Option (Nat × V)} (h : Ans H H' v o) (ok : OkO o) : Dp K H' v (dOf o) := by
  rcases h with ⟨rfl, rfl⟩ | ⟨p, j, y, rfl, rfl, _, h4⟩
  · exact .non
  · exact .lst (sq h4) (.cons (.str _) (.cons (dV_dp (ok j y rfl).2) .nil))
theorem dps_of {K : PySem.W.Frag} {H : Hp} {d : PyData} : ∀ {vs : List V}, (∀ v ∈ vs, Dp K H v d) → DpAll K H vs (List.replicate vs.length d)
  | [], _ => .nil
  | v :: vs, h => .cons (h v List.mem_cons_self) (dps_of fun u hu => h u (List.mem_cons_of_mem _ hu))
theorem dpAll_of {K : PySem.W.Frag} {H : Hp} : ∀ {vs : List V} {ds : List PyData}, vs.length = ds.length → (∀ (j : Nat) (v : V) (d : PyData), vs[j]? = some v → ds[j]? = some d → Dp K H v d) → DpAll K H vs ds
  | [], [], _, _ => .nil
  | [], _ :: _, h, _ => nomatch h
  | _ :: _, [], h, _ => nomatch h
  | v :: vs, d :: ds, h, g => .cons (g 0 v d rfl rfl) (dpAll_of (by simpa using h) fun j u e h1 h2 => g (j + 1) u e h1 h2)
/-! the data of wild pairs -/
def dP (c : Pr) : PyData := .tuple [.int c.1, .int c.2]
theorem dp_cw {K : PySem.W.Frag} {H : Hp} {a : Addr} {ts : List Addr} {ws : List Pr} (h : SqL K H a (ts.map V.ref)) (hc : Cw H ts ws) : Dp K H (.ref a) (.list (ws.map dP)) :=
  .lst h (dpAll_of (by rw [List.length_map, List.length_map, hc.len]) fun j v d e1 e2 => by
    rw [List.getElem?_map] at e1 e2
    cases g : ts[j]? with
    | none => rw [g] at e1; cases e1
    | some t =>
      rw [g] at e1; cases e1
      obtain ⟨c, e3, e4⟩ := hc.at_ j t g
      rw [e3] at e2; cases e2
      exact .tup (sqT e4) (.cons (.int _) (.cons (.int _) .nil)))
theorem depth_cw : ∀ ws : List Pr, PyData.depthAll (ws.map dP) ≤ 1
  | [] => by decide
  | c :: r => by
    have := depth_cw r
    show max 1 (PyData.depthAll (r.map dP)) ≤ 1
    omega
theorem sh_nt {i : Int} (h : Nt i) : Sh 32 (.int i) := Sh.int (k := 31) (by decide) (Nat.lt_of_le_of_lt h (by decide)) (by decide)
theorem sh_cw {ws : List Pr} (h : ∀ c ∈ ws, Nt c.1 ∧ Nt c.2) : Sh (ws.length * 73 + 2) (.list (ws.map dP)) := by
  have := Sh.list (b := 71) (ds := ws.map dP) fun d hd => by
    obtain ⟨c, hc, rfl⟩ := List.mem_map.mp hd
    refine (Sh.tuple (b := 32) fun e he => ?_).mono (by show 2 * (32 + 2) + 3 ≤ 71; decide)
    rcases List.mem_cons.mp he with e1 | e1
    · rw [e1]; exact sh_nt (h c hc).1
    · rw [List.mem_singleton.mp e1]; exact sh_nt (h c hc).2
  rwa [List.length_map] at this
theorem sh_nts {ns : List Int} (h : ∀ x ∈ ns, Nt x) : Sh (ns.length * 34 + 2) (dI ns) := Sh.ints (k := 31) (by decide) (by decide) fun x hx => Nat.lt_of_le_of_lt (h x hx) (by decide)
/-- what is due, or None, as it stands -/
def Du (H : Hp) (v : V) (o : Option (Nat × V)) : Prop := (o = none ∧ v = .non) ∨ ∃ (p : Addr) (j : Nat) (y : V), o = some (j, y) ∧ v = .ref p ∧ H p = some (.lst [.str (nmS j), y])
theorem Du.same {H H' : Hp} {v : V} {o : Option (Nat × V)} (h : Du H v o) (s : Same H H') : Du H' v o := by
  rcases h with h | ⟨p, j, y, h1, h2, h4⟩
  · exact .inl h
  · exact .inr ⟨p, j, y, h1, h2, s _ _ h4⟩
theorem Du.dp {K : PySem.W.Frag} {H : Hp} {v : V} {o : Option (Nat × V)} (h : Du H v o) (ok : OkO o) : Dp K H v (dOf o) := by
  rcases h with ⟨rfl, rfl⟩ | ⟨p, j, y, rfl, rfl, h4⟩
  · exact .non
  · exact .lst (sq h4) (.cons (.str _) (.cons (dV_dp (ok j y rfl).2) .nil))
theorem Ans.du {H H' : Hp} {v : V} {o : Option (Nat × V)} (h : Ans H H' v o) : Du H' v o := by
  rcases h with h | ⟨p, j, y, h1, h2, _, h4⟩
  · exact .inl h
  · exact .inr ⟨p, j, y, h1, h2, h4⟩
theorem An.du {H : Hp} {D : Addr} {v : V} {o : Option (Nat × V)} (h : An H D v o) : Du H v o := by
  rcases h with h | ⟨p, j, y, h1, h2, _, h4⟩
  · exact .inl h
  · exact .inr ⟨p, j, y, h1, h2, h4⟩
def orI (o : Option Nat) (j : Nat) (d : Option (Nat × V)) : Option (Nat × V) := match o with
  | some i => some (j, .int i)
  | none => d
theorem due_if {o : Option Nat} {j n : Nat} {σ : L2.St} {H : Hp} {Q : VK} {te : TE} {d : Option (Nat × V)} {v0 : V} (hv : σ[n]? = some (some (vIx o))) (h0 : Du H v0 d) (ht : ∀ Q' : VK, Q' v0 H → te σ H Q')
    (q : ∀ (H' : Hp) (v : V), Same H H' → Du H' v (orI o j d) → Q v H') : if (!decide (vIx o = V.non)) = true then (tLst (tCons (tC (.str (nmS j))) (tCons (tVar n) tNil))) σ H Q else te σ H Q := by
  cases o with
  | none => exact ht Q (q H v0 (Same.refl _) h0)
  | some i => exact ⟨_, hv, size_le (by simp), fun p np => q _ _ (same_new np) (.inr ⟨p, j, _, rfl, rfl, upd_same⟩)⟩
theorem due_ne {i k : Int} {j : Nat} {σ : L2.St} {H : Hp} {Q : VK}
    (q : ∀ (H' : Hp) (v : V), Same H H' → Du H' v (if k = i then none else some (j, .non)) → Q v H') : if (!decide (i = k)) = true then (tLst (tCons (tC (.str (nmS j))) (tCons (tC .non) tNil))) σ H Q else tC .non σ H Q := by
  by_cases e : i = k
  · rw [decide_eq_true e]
    exact q H _ (Same.refl _) (.inl ⟨if_pos e.symm, rfl⟩)
  · rw [decide_eq_false e]
    exact ⟨size_le (by simp), fun p np => q _ _ (same_new np) (.inr ⟨p, j, _, if_neg fun z => e z.symm, rfl, upd_same⟩)⟩
theorem nm_sh {j : Nat} (h : j < 7) : Sh 40 (.str (nmS j)) := by
  have : j = 0 ∨ j = 1 ∨ j = 2 ∨ j = 3 ∨ j = 4 ∨ j = 5 ∨ j = 6 := by omega
  rcases this with e | e | e | e | e | e | e <;> subst e <;> exact ⟨by decide +kernel, by decide +kernel⟩
theorem sh_dOf {o : Option (Nat × V)} (ok : OkO o) : Sh 100 (dOf o) := by
  match o, ok with
  | none, _ => exact Sh.none.mono (by decide)
  | some (j, y), ok =>
    obtain ⟨hj, hy⟩ := ok j y rfl
    refine (Sh.list (b := 40) (ds := [.str (nmS j), dV y]) fun d hd => ?_).mono (by show 2 * 42 + 2 ≤ 100; decide)
    rcases List.mem_cons.mp hd with e | e
    · rw [e]; exact nm_sh hj
    · rw [List.mem_singleton.mp e]
      rcases hy with rfl | ⟨i, rfl, hi⟩
      · exact Sh.none.mono (by decide)
      · exact (sh_nt hi).mono (by decide)
theorem depth_dOf {o : Option (Nat × V)} (ok : OkO o) : (dOf o).depth ≤ 1 := by
  match o, ok with
  | none, _ => decide
  | some (j, y), ok =>
    rcases (ok j y rfl).2 with rfl | ⟨i, rfl, _⟩
    · show max 0 (max 0 0) + 1 ≤ 1; decide
    · show max 0 (max 0 0) + 1 ≤ 1; decide
theorem depth_rep {d : PyData} (h : d.depth ≤ 1) : ∀ n, PyData.depthAll (List.replicate n d) ≤ 1
  | 0 => Nat.zero_le _
  | n + 1 => by
    have := depth_rep h n
    show max d.depth (PyData.depthAll (List.replicate n d)) ≤ 1
    omega
/-- the repr of a few that are all what is due -/
theorem n_reprO {K : PySem.W.Frag} {H : Hp} {Q : VK} {p : Addr} {vs : List V} {o : Option (Nat × V)} {n : Nat} (h : H p = some (.lst vs)) (hl : vs.length = n) (hn : n ≤ 100) (hv : ∀ v ∈ vs, Du H v o) (ok : OkO o)
    (q : Q (.str (PyData.list (List.replicate n (dOf o))).shown) H) : rReprD K [.ref p] H Q := by
  subst hl
  refine r_repr (d := .list (List.replicate vs.length (dOf o))) (.lst (sq h) (dps_of fun v m => (hv v m).dp ok)) ?_ (b := vs.length * 102 + 2) ?_ (by omega) q
  · have := depth_rep (depth_dOf ok) vs.length
    show PyData.depthAll _ + 1 ≤ 60
    omega
  · have := Sh.list (b := 100) (ds := List.replicate vs.length (dOf o)) fun d hd => by rw [List.eq_of_mem_replicate hd]; exact sh_dOf ok
    rwa [List.length_replicate] at this
theorem okO_orI {o : Option Nat} {j : Nat} {d : Option (Nat × V)} (hj : j < 7) (h : ∀ i, o = some i → i ≤ 10000) (hd : OkO d) : OkO (orI o j d) := by
  cases o with
  | none => exact hd
  | some i =>
    intro j' y e
    cases e
    exact ⟨hj, .inr ⟨_, rfl, by have := h i rfl; rw [Int.natAbs_natCast]; exact Nat.le_trans this (by decide)⟩⟩
theorem ne_skip {z : Str} {A B : Prop} (h : B) : if (!decide (z = z)) = true then A else B := by rw [decide_eq_true rfl]; exact h
theorem okO_none : OkO none := fun _ _ e => by cases e
theorem first_le {p : Nat → Bool} {n i : Nat} (h : ((List.range n).filter p).head? = some i) : i < n := by
  have := List.mem_of_mem_head? h
  exact List.mem_range.mp (List.mem_filter.mp this).1
theorem ini_InvalidCommand (T : Txt K mg) : FnOk P w K mg base L2.CX0 1 T.InvalidCommand_i_a T.InvalidCommand_i_d ["self", "value"] (spIni K T.InvalidCommand_a) := by
  refine T.InvalidCommand_i_F.ok sc_InvalidCommand_i (fun vs H Q E h => ?_) (fun cdv A ou t H vs Q E hr h => ⟨_, pss_one (ps_ost (pv 0) (pv 1)), ini_read h⟩)
  obtain ⟨_, _, rfl, _⟩ := h; rfl
theorem ini_InvalidNumber (T : Txt K mg) : FnOk P w K mg base L2.CX0 1 T.InvalidNumber_i_a T.InvalidNumber_i_d ["self", "value"] (spIni K T.InvalidNumber_a) := by
  refine T.InvalidNumber_i_F.ok sc_InvalidNumber_i (fun vs H Q E h => ?_) (fun cdv A ou t H vs Q E hr h => ⟨_, pss_one (ps_ost (pv 0) (pv 1)), ini_read h⟩)
  obtain ⟨_, _, rfl, _⟩ := h; rfl
theorem ini_InvalidRow (T : Txt K mg) : FnOk P w K mg base L2.CX0 1 T.InvalidRow_i_a T.InvalidRow_i_d ["self", "value"] (spIni K T.InvalidRow_a) := by
  refine T.InvalidRow_i_F.ok sc_InvalidRow_i (fun vs H Q E h => ?_) (fun cdv A ou t H vs Q E hr h => ⟨_, pss_one (ps_ost (pv 0) (pv 1)), ini_read h⟩)
  obtain ⟨_, _, rfl, _⟩ := h; rfl
theorem ini_InvalidSize (T : Txt K mg) : FnOk P w K mg base L2.CX0 1 T.InvalidSize_i_a T.InvalidSize_i_d ["self", "value"] (spIni K T.InvalidSize_a) := by
  refine T.InvalidSize_i_F.ok sc_InvalidSize_i (fun vs H Q E h => ?_) (fun cdv A ou t H vs Q E hr h => ⟨_, pss_one (ps_ost (pv 0) (pv 1)), ini_read h⟩)
  obtain ⟨_, _, rfl, _⟩ := h; rfl
theorem ini_NothingToUndo (T : Txt K mg) : FnOk P w K mg base L2.CX0 1 T.NothingToUndo_i_a T.NothingToUndo_i_d ["self", "value"] (spIni K T.NothingToUndo_a) := by
  refine T.NothingToUndo_i_F.ok sc_NothingToUndo_i (fun vs H Q E h => ?_) (fun cdv A ou t H vs Q E hr h => ⟨_, pss_one (ps_ost (pv 0) (pv 1)), ini_read h⟩)
  obtain ⟨_, _, rfl, _⟩ := h; rfl
theorem ini_UnequalSizes (T : Txt K mg) : FnOk P w K mg base L2.CX0 1 T.UnequalSizes_i_a T.UnequalSizes_i_d ["self", "value"] (spIni K T.UnequalSizes_a) := by
  refine T.UnequalSizes_i_F.ok sc_UnequalSizes_i (fun vs H Q E h => ?_) (fun cdv A ou t H vs Q E hr h => ⟨_, pss_one (ps_ost (pv 0) (pv 1)), ini_read h⟩)
  obtain ⟨_, _, rfl, _⟩ := h; rfl
theorem ini_Unreadable (T : Txt K mg) : FnOk P w K mg base L2.CX0 1 T.Unreadable_i_a T.Unreadable_i_d ["self", "value"] (spIni K T.Unreadable_a) := by
  refine T.Unreadable_i_F.ok sc_Unreadable_i (fun vs H Q E h => ?_) (fun cdv A ou t H vs Q E hr h => ⟨_, pss_one (ps_ost (pv 0) (pv 1)), ini_read h⟩)
  obtain ⟨_, _, rfl, _⟩ := h; rfl
def sp_sort_stretches (K : PySem.W.Frag) : Sp := fun vs H Q _ => ∃ (a b : Addr) (ns : List Int) (ts : List Addr) (cs : List Cmd), vs = [.ref a, .ref b] ∧ SqL K H a (ns.map V.int) ∧ SqL K H b (ts.map V.ref) ∧ Cm H ts cs ∧ ns.length ≤ 1000 ∧ Fits ns.length cs ∧
  ∀ (H' : Hp) (p : Addr), Same H H' → H p = none → H' p = some (.lst ((runM ns cs).map V.int)) → Q (.ref p) H'
theorem ok_sort_stretches (T : Txt K mg) : FnG P w K mg base CX0 1 T.sort_stretches_a T.sort_stretches_d ["row", "commands"] (sp_sort_stretches K) := by
  refine okG T.sort_stretches_F sc_sort_stretches (fun vs H Q E h => ?_) (fun cdv A ou t H vs Q E hG hr h => ?_)
  · obtain ⟨_, _, _, _, _, rfl, _⟩ := h; rfl
  have nd := sc_sort_stretches.nd
  obtain ⟨a, b, ns, ts, cs, rfl, hS, hB, hC, hn2, hF, q⟩ := h
  refine ⟨_, (pss_cons (sset 2 nd (pe_callTy (listK K) (by rfl) T.m_list (by decide +kernel) (pa_cons (pv 0) pa_nil)))
      (pss_cons (ps_for PassesOwn.never rfl (pi_listK K (pv 1)) (pg_tupK K 2 rfl (pgs_cons (gset 3 nd) (pgs_cons (gset 4 nd) pgs_nil)))
        (pss_one (ps_asg (pe_callB (sortedK K) (by rfl) T.m_sorted (by decide +kernel) (pa_cons (pe_slice (sl_listK K) (pv 2) (po_some (pe_op op_sub (pv 3) pe_int)) (po_some (pv 4))) pa_nil)) (pg_slc (pv 2) (po_some (pe_op op_sub (pv 3) pe_int)) (po_some (pv 4))))))
      (pss_one (ps_ret (pv 2))))), ?_⟩
  fail "g"
  intro p np
  have hp : H p = none := np
  have s2 := same_new (o := .lst (ns.map V.int)) np
  have hB2 := s2.seq hB
  fail "g"
  refine forA (walk_list (xs := ts.map V.ref)) (fun i σ' H' => ∃ y3 y4, σ' = [some (.ref a), some (.ref b), some (.ref p), y3, y4] ∧ Same H H' ∧ H' p = some (.lst ((runM ns (cs.take i)).map V.int)))
    ⟨none, none, rfl, s2, upd_same⟩ (fun i σ' H' _ q => ?_) (fun i σ' H' hi q => ?_) (fun σ' H' q' => ?_)
  · obtain ⟨_, _, _, s, _⟩ := q; exact s.seq hB
  · obtain ⟨y3, y4, rfl, s, hP⟩ := q
    have hi' : i < cs.length := by rw [← hC.len]; simpa using hi
    obtain ⟨t0, et, ht⟩ := hC.idx hi'
    have e1 : (ts.map V.ref)[i] = .ref t0 := by
      have : (ts.map V.ref)[i]? = some (.ref t0) := by rw [List.getElem?_map, et]; rfl
      rw [List.getElem?_eq_getElem hi] at this
      exact Option.some.inj this
    rw [e1]
    have hc := hF cs[i] (List.getElem_mem hi')
    have ht1 := s _ _ ht
    have hlenP : (runM ns (cs.take i)).length = ns.length := runM_len hF.take
    fail "g"
    intro l0 n0
    rw [cut_mid (a := cs[i].1 - 1) (b := cs[i].2) (by omega) rfl (by rw [List.length_map]; omega), ← List.map_drop, ← List.map_take] at *
    fail "g"
    refine ⟨l0, _, rfl, sq upd_same, fun ns' l1 hperm hup n1 => ?_⟩
    have e2 := srt_is hperm hup
    subst e2
    fail "g"
    have hP2 := upd_old (o := .lst ((srt (((runM ns (cs.take i)).drop (cs[i].1 - 1)).take (cs[i].2 - (cs[i].1 - 1)))).map V.int)) n1 (upd_old (o := .lst ((((runM ns (cs.take i)).drop (cs[i].1 - 1)).take (cs[i].2 - (cs[i].1 - 1))).map V.int)) n0 hP)
    refine ⟨p, l1, _, _, _, _, rfl, rfl, rfl, rfl, hP2, upd_same, ne_of_none (upd_old n0 hP) n1, by omega, by omega, by rw [List.length_map]; omega, ?_, ?_⟩
    · rw [List.length_map, List.length_map, srt_len, List.length_take, List.length_drop]; exact size_le (by omega)
    · refine ⟨_, _, rfl, same_old ((s.trans (same_new n0)).trans (same_new n1)) hp, ?_⟩
      rw [upd_same, take_one hi', runM_snoc]
      rw [show ((cs[i].1 : Nat) - 1 : Int).toNat = cs[i].1 - 1 by omega, show ((cs[i].2 : Nat) : Int).toNat = cs[i].2 by omega, ← List.map_take, ← List.map_drop, ← List.map_append, ← List.map_append]
      rfl
  · obtain ⟨y3, y4, rfl, s, hP⟩ := q'
    fail "g"
    rw [List.take_of_length_le (by rw [List.length_map, hC.len]; exact Nat.le_refl _)] at hP
    exact q _ _ s hp hP
def sp_inversions (K : PySem.W.Frag) : Sp := fun vs H Q _ => ∃ (a : Addr) (ns : List Int), vs = [.ref a] ∧ SqL K H a (ns.map V.int) ∧ ns.length ≤ 100000 ∧ ∀ H', Same H H' → Q (.int (inv ns : Nat)) H'
theorem ok_inversions (T : Txt K mg) : FnG P w K mg base CX0 1 T.inversions_a T.inversions_d ["row"] (sp_inversions K) := by
  refine okG T.inversions_F sc_inversions (fun vs H Q E h => ?_) (fun cdv A ou t H vs Q E hG hr h => ?_)
  · obtain ⟨_, _, rfl, _⟩ := h; rfl
  have nd := sc_inversions.nd
  obtain ⟨a, ns, rfl, hS, hlen, q⟩ := h
  refine ⟨_, (pss_cons (sset 1 nd pe_int)
      (pss_cons (ps_for PassesOwn.never rfl (pi_enumK K (by rfl) T.m_enumerate (pa_cons (pv 0) pa_nil)) (pg_tupK K 2 rfl (pgs_cons (gset 2 nd) (pgs_cons (gset 3 nd) pgs_nil)))
        (pss_one (saug 1 nd (pe_callB (lenK K) (by rfl) T.m_len PySem.boot_len (pa_cons (pe_lc (own := [("later", 4)]) (hc := rfl) (hN := nd) (hi := (pi_listK K (pe_slice (sl_listK K) (pv 0) (po_some (pe_op op_add (pv 2) pe_int)) po_none))) (ok := blkOk_by (by rfl)) (hg := fun _ _ _ _ _ => (gset 4 nd)) (ht := (fun _ _ _ _ _ => pts_one (pt_cmpR op_lt (pv 4) (pv 3) (nomark _)))) (he := fun _ _ _ _ _ => (pv 4))) pa_nil)) ip_add)))
      (pss_one (ps_ret (pv 1))))), ?_⟩
  fail "g"
  refine forEI (walk_enum (xs := ns.map V.int)) (fun i σ' H' => ∃ y2 y3 y4, σ' = [some (.ref a), some (.int (invU ns i : Nat)), y2, y3, y4] ∧ Same H H') ⟨none, none, none, rfl, Same.refl H⟩ (fun i σ' H' _ p => ?_) (fun i σ' H' T1 hi p nT => ?_) (fun σ' H' p => ?_)
  · obtain ⟨_, _, _, _, s⟩ := p; exact s.seq hS
  · obtain ⟨y2, y3, y4, rfl, s⟩ := p
    have s1 := s.trans (same_new (o := .tup [.int (i : Nat), .int ns[i]]) nT)
    have hS1 := s1.seq hS
    fail "g"
    intro n nn
    rw [cut_from (a := i + 1) (by omega), map_drop']
    fail "g"
    intro D nD
    have s2 := s1.trans (same_new (o := .lst ((ns.drop (i + 1)).map V.int)) nn)
    refine lc_sameAI (walk_list (xs := (ns.drop (i + 1)).map V.int)) (fun j => (((ns.drop (i + 1)).take j).filter (fun y => decide (y < ns[i]))).map V.int) nD (Same.refl _) rfl (fun H s => s.seq (sq upd_same)) (fun j H hj p => ?_) (fun H p hH => ?_)
    · fail "g"
      refine ⟨rfl, ?_⟩
      fail "g"
      refine r_dec (fun h => ?_) (fun h => ?_)
      · fail "g"
        exact lc_add p (Same.refl _) nD (acc_filtT hj (decide_eq_true h)) (filt_len (by rw [List.length_drop]; omega))
      · exact lc_skip p (Same.refl _) (acc_filtF hj (decide_eq_false h))
    · fail "g"
      rw [show ((invU ns i : Nat) : Int) + _ = ((invU ns (i + 1) : Nat) : Int) by
        rw [List.take_of_length_le (Nat.le_refl _), List.length_map, invU, show ns.getD i 0 = ns[i] by simp [List.getD, hi], less]
        omega]
      exact ⟨_, _, _, rfl, s2.trans p⟩
  · obtain ⟨y2, y3, y4, rfl, s⟩ := p
    fail "g"
    rw [List.length_map, invU_all]
    exact q _ s
def sp_law_rng (K : PySem.W.Frag) : Sp := fun vs H Q _ => ∃ (a : Addr) (ns : List Int), vs = [.ref a] ∧ SqL K H a (ns.map V.int) ∧ ns.length ≤ 63 ∧ ∀ H' r, Same H H' → H r = none → Rng H' r 0 → Q (.ref r) H'
theorem ok_law_rng (T : Txt K mg) : FnG P w K mg base CX0 1 T.law_rng_a T.law_rng_d ["script"] (sp_law_rng K) := by
  refine okG T.law_rng_F sc_law_rng (fun vs H Q E h => ?_) (fun cdv A ou t H vs Q E hG hr h => ?_)
  · obtain ⟨_, _, rfl, _⟩ := h; rfl
  have nd := sc_law_rng.nd
  obtain ⟨a, ns, rfl, hS, hlen, q⟩ := h
  refine ⟨_, (pss_cons (ps_asg (pe_tup (pa_cons pe_int (pa_cons pe_int pa_nil))) (pg_tupK K 2 rfl (pgs_cons (gset 1 nd) (pgs_cons (gset 2 nd) pgs_nil))))
      (pss_cons (ps_for PassesOwn.never rfl (pi_listK K (pe_slice (sl_listK K) (pv 0) po_none (po_some pe_int))) (gset 3 nd)
        (pss_cons (sset 4 nd (pe_callB call_abs (by rfl) T.m_abs (by decide +kernel) (pa_cons (pv 3) pa_nil)))
      (pss_cons (ps_if (pt_cmpR op_ge (pv 4) (pe_op op_powW pe_int pe_int) (nomark _))
        (pss_one (sset 1 nd (pe_op op_add (pe_op op_mulW (pv 1) (pe_op op_powW pe_int pe_int)) (pe_op op_mod (pv 4) (pe_op op_powW pe_int pe_int)))))
        pss_nil)
      (pss_one (sset 2 nd (pe_op op_mod (pe_op op_add (pe_op op_add (pe_op op_mulW (pv 2) pe_int) (pe_op op_mod (pv 3) pe_int)) pe_int) pe_int))))))
      (pss_one (ps_ret (pe_lst (pa_cons (pv 1) (pa_cons (pv 2) (pa_cons pe_int pa_nil)))))))), ?_⟩
  fail "g"
  intro T0 n0
  fail "g"
  have s0 := same_new (o := .tup [.int 0, .int 88675123]) n0
  have hS0 := s0.seq hS
  fail "g"
  intro n nn
  rw [cut_to (z := 63) (b := 63) rfl, List.take_of_length_le (by rw [List.length_map]; exact hlen)]
  fail "g"
  have s1 := s0.trans (same_new (o := .lst (ns.map V.int)) nn)
  refine forAI (walk_list (xs := ns.map V.int)) (fun i σ' H' => ∃ d s y3 y4, σ' = [some (.ref a), some (.int d), some (.int s), y3, y4] ∧ 0 ≤ d ∧ d.natAbs < 2 ^ (200 * i + 200) ∧ 0 ≤ s ∧ s < 2 ^ 61 ∧ H' = upd (upd H T0 (.tup [.int 0, .int 88675123])) n (.lst (ns.map V.int)))
    ⟨0, 88675123, none, none, rfl, by decide, by decide, by decide, by decide, rfl⟩ (fun i σ' H' _ p => ?_) (fun i σ' H' hi p => ?_) (fun σ' H' p => ?_)
  · obtain ⟨_, _, _, _, _, _, _, _, _, rfl⟩ := p; exact sq upd_same
  · obtain ⟨d, s, y3, y4, rfl, hd, hdb, hs, hsb, rfl⟩ := p
    fail "g"
    have fin : ∀ d' y4', 0 ≤ d' → d'.natAbs < 2 ^ (200 * (i + 1) + 200) → ∃ d0 s0 y3 y4, [some (V.ref a), some (V.int d'), some (V.int ((s * 1000003 + ns[i] % 2305843009213693921 + 7) % 2305843009213693951)), some (V.int ns[i]), y4'] = [some (.ref a), some (.int d0), some (.int s0), y3, y4] ∧ 0 ≤ d0 ∧ d0.natAbs < 2 ^ (200 * (i + 1) + 200) ∧ 0 ≤ s0 ∧ s0 < 2 ^ 61 ∧
        upd (upd H T0 (.tup [.int 0, .int 88675123])) n (.lst (ns.map V.int)) = upd (upd H T0 (.tup [.int 0, .int 88675123])) n (.lst (ns.map V.int)) := fun d' y4' h1 h2 =>
      ⟨_, _, _, _, rfl, h1, h2, Int.emod_nonneg _ (by decide), Int.lt_trans (Int.emod_lt_of_pos _ (by decide)) (by decide), rfl⟩
    refine r_dec (fun h => ?_) (fun h => ?_)
    · fail "g"
      refine r_I (wide_mul (b := 200) hdb (by decide) (by omega) (by decide) (by omega)) ?_
      fail "g"
      refine r_I (wide_mul (a := 61) (b := 20) (by omega) (by decide) (by decide) (by decide) (by decide)) ?_
      fail "g"
      exact fin _ _ (by
        have := Int.emod_nonneg (if ns[i] < 0 then -ns[i] else ns[i]) (show (10 : Int) ^ Int.toNat 60 ≠ 0 by decide)
        have := Int.mul_nonneg hd (show (0 : Int) ≤ 10 ^ Int.toNat 60 by decide)
        omega) (grow hd hdb _)
    · fail "g"
      refine r_I (wide_mul (a := 61) (b := 20) (by omega) (by decide) (by decide) (by decide) (by decide)) ?_
      fail "g"
      exact fin _ _ hd (Nat.lt_of_lt_of_le hdb (Nat.pow_le_pow_right (by decide) (by omega)))
  · obtain ⟨d, s, y3, y4, rfl, hd, hdb, hs, hsb, rfl⟩ := p
    fail "g"
    intro r nr
    exact q _ _ (same_old s1 (s1.free nr)) (s1.free nr) ⟨d, s, 0, upd_same, hd, hs, hsb, by decide, by decide⟩
def sp_law_draw (K : PySem.W.Frag) : Sp := fun vs H Q _ => ∃ (r : Addr) (lim : Int) (m : Nat), vs = [.ref r, .int lim] ∧ Rng H r m ∧ m < 2 ^ 60 ∧ 0 < lim ∧ lim < 2 ^ 200 ∧
  ∀ H' d, 0 ≤ d → d < lim → Sx r H H' → Rng H' r (m + 1) → Q (.int d) H'
theorem ok_law_draw (T : Txt K mg) : FnG P w K mg base CX0 1 T.law_draw_a T.law_draw_d ["rng", "limit"] (sp_law_draw K) := by
  refine okG T.law_draw_F sc_law_draw (fun vs H Q E h => ?_) (fun cdv A ou t H vs Q E hG hr h => ?_)
  · obtain ⟨_, _, _, rfl, _⟩ := h; rfl
  have nd := sc_law_draw.nd
  obtain ⟨r, lim, m, rfl, ⟨a, b, c, hR, ha, hb, hb2, hc, hcm⟩, hm, hl, hl2, q⟩ := h
  refine ⟨_, (pss_cons (ps_if (pt_cmpR op_gt (pe_ix (ix_listK K) (pv 0) pe_int (fun _ _ => rfl)) pe_int (nomark _))
        (pss_cons (sset 2 nd (pe_op op_mod (pe_ix (ix_listK K) (pv 0) pe_int (fun _ _ => rfl)) (pv 1)))
      (pss_cons (ps_asg (pe_op op_fdivW (pe_ix (ix_listK K) (pv 0) pe_int (fun _ _ => rfl)) (pv 1)) (pg_sub (pv 0) pe_int set_list))
      (pss_one (ps_ret (pv 2)))))
        pss_nil)
      (pss_cons (ps_asg (pe_op op_add (pe_ix (ix_listK K) (pv 0) pe_int (fun _ _ => rfl)) pe_int) (pg_sub (pv 0) pe_int set_list))
      (pss_cons (sset 3 nd (pe_op op_mod (pe_op op_powW (pe_op op_add (pe_ix (ix_listK K) (pv 0) pe_int (fun _ _ => rfl)) (pe_op op_mulW pe_int (pe_ix (ix_listK K) (pv 0) pe_int (fun _ _ => rfl)))) pe_int) pe_int))
      (pss_cons (sset 3 nd (pe_op op_mod (pe_op op_powW (pe_op op_add (pv 3) (pe_op op_mulW pe_int (pe_ix (ix_listK K) (pv 0) pe_int (fun _ _ => rfl)))) pe_int) pe_int))
      (pss_one (ps_ret (pe_op op_mod (pe_op op_fdivW (pv 3) pe_int) (pv 1)))))))), ?_⟩
  fail "g"
  refine r_dec (fun h1 => ?_) (fun h1 => ?_)
  · fail "g"
    refine r_I (wide_div hl (b := 201) (by omega) (by decide) (by decide)) ?_
    fail "g"
    exact q _ _ (Int.emod_nonneg _ (by omega)) (Int.emod_lt_of_pos _ hl) Sx.put ⟨_, _, _, upd_same, Int.ediv_nonneg ha (by omega), hb, hb2, hc, by omega⟩
  · fail "g"
    refine r_I (wide_mul (a := 30) (b := 61) (by omega) (by omega) (by decide) (by decide) (by decide)) ?_
    fail "g"
    refine r_I (powW (n := 100) (by omega) (by decide) (by decide) (by decide)) ?_
    fail "g"
    have hx := Int.emod_lt_of_pos ((b + 998244353 * (c + 1)) ^ Int.toNat 3) (show (0 : Int) < 162259276829213363391578010288127 by decide)
    have hx0 := Int.emod_nonneg ((b + 998244353 * (c + 1)) ^ Int.toNat 3) (show (162259276829213363391578010288127 : Int) ≠ 0 by decide)
    generalize (b + 998244353 * (c + 1)) ^ Int.toNat 3 % 162259276829213363391578010288127 = x at hx hx0 ⊢
    refine r_I (wide_mul (a := 30) (b := 61) (by omega) (by omega) (by decide) (by decide) (by decide)) ?_
    fail "g"
    refine r_I (powW (n := 120) (by omega) (by decide) (by decide) (by decide)) ?_
    fail "g"
    refine r_I ⟨by decide, by decide +kernel⟩ ?_
    fail "g"
    exact q _ _ (Int.emod_nonneg _ (by omega)) (Int.emod_lt_of_pos _ hl) Sx.put ⟨_, _, _, upd_same, ha, hb, hb2, by omega, by omega⟩
def spe_law_kind (K : PySem.W.Frag) (T : Txt K mg) : Addr → Value → Option Addr → Sp := fun a cls d vs H Q _ => ∃ (D dd : Addr) (j : Nat) (y : V) (_u : Unit), vs = [.ref a] ∧ cls = .ref D ∧ d = some dd ∧ H dd = some (.xd [(("value" : Str), y)]) ∧ Kq K T D j ∧
  ∀ (H' : Hp) (p : Addr), Same H H' → H p = none → H' p = some (.lst [.str (nmS j), y]) → Q (.ref p) H'
theorem okE_law_kind (T : Txt K mg) : FnE P w K mg base 1 T.law_kind_a T.law_kind_d ["caught"] (spe_law_kind K T) := by
  refine okE T.law_kind_F sc_law_kind (fun a cls d vs H Q E h => ?_) (fun cdv A ou t H vs Q E q cls d hG hr cg h => ?_)
  · obtain ⟨_, _, _, _, _, rfl, _⟩ := h; rfl
  have nd := sc_law_kind.nd
  obtain ⟨D, dd, j, y, _, rfl, rfl, rfl, hdd, kd, k⟩ := h
  refine ⟨_, (pss_cons (sset 1 nd (pe_lst (pa_cons pe_str (pa_cons pe_str (pa_cons pe_str (pa_cons pe_str (pa_cons pe_str (pa_cons pe_str (pa_cons pe_str pa_nil)))))))))
      (pss_cons (sset 2 nd (pe_lst (pa_cons (pe_callB (call_isX cg) (by rfl) T.m_isinstance (by decide +kernel) (pa_cons (pv 0) (pa_cons (pe_glob (v := .ref T.InvalidSize_a) (by rfl) T.InvalidSize_g rfl) pa_nil))) (pa_cons (pe_callB (call_isX cg) (by rfl) T.m_isinstance (by decide +kernel) (pa_cons (pv 0) (pa_cons (pe_glob (v := .ref T.InvalidCommand_a) (by rfl) T.InvalidCommand_g rfl) pa_nil))) (pa_cons (pe_callB (call_isX cg) (by rfl) T.m_isinstance (by decide +kernel) (pa_cons (pv 0) (pa_cons (pe_glob (v := .ref T.InvalidRow_a) (by rfl) T.InvalidRow_g rfl) pa_nil))) pa_nil)))))
      (pss_cons (sset 2 nd (pe_op op_cat (pv 2) (pe_lst (pa_cons (pe_callB (call_isX cg) (by rfl) T.m_isinstance (by decide +kernel) (pa_cons (pv 0) (pa_cons (pe_glob (v := .ref T.InvalidNumber_a) (by rfl) T.InvalidNumber_g rfl) pa_nil))) (pa_cons (pe_callB (call_isX cg) (by rfl) T.m_isinstance (by decide +kernel) (pa_cons (pv 0) (pa_cons (pe_glob (v := .ref T.UnequalSizes_a) (by rfl) T.UnequalSizes_g rfl) pa_nil))) pa_nil)))))
      (pss_cons (sset 2 nd (pe_op op_cat (pv 2) (pe_lst (pa_cons (pe_callB (call_isX cg) (by rfl) T.m_isinstance (by decide +kernel) (pa_cons (pv 0) (pa_cons (pe_glob (v := .ref T.NothingToUndo_a) (by rfl) T.NothingToUndo_g rfl) pa_nil))) (pa_cons (pe_callB (call_isX cg) (by rfl) T.m_isinstance (by decide +kernel) (pa_cons (pv 0) (pa_cons (pe_glob (v := .ref T.Unreadable_a) (by rfl) T.Unreadable_g rfl) pa_nil))) pa_nil)))))
      (pss_cons (ps_if (PW.pt (pw_or (pt_cmpR op_ne (pe_bmK K PySem.F.plainAttrs_list PySem.F.slot_list_count PySem.F.type_list_count (lcountF K) (pv 2) (pa_cons pe_bl pa_nil)) pe_int (nomark _)) (pw_or1 (pt_not (pt_val (pe_callB (call_isX cg) (by rfl) T.m_isinstance (by decide +kernel) (pa_cons (pv 0) (pa_cons (pe_bltn (v := .ty "ValueError") (u := .type "ValueError") (by rfl) T.m_ValueError (by decide +kernel) rfl) pa_nil))))))))
        (pss_one (ps_ret pe_str))
        pss_nil)
      (pss_one (ps_ret (pe_lst (pa_cons (pe_ix (ix_listK K) (pv 1) (pe_bmK K PySem.F.plainAttrs_list PySem.F.slot_list_index PySem.F.type_list_index (lindexK K) (pv 2) (pa_cons pe_bl pa_nil)) (fun _ _ => rfl)) (pa_cons (pe_xfC cg (pv 0)) pa_nil)))))))))), ?_⟩
  fail "ww"
  refine new_ fun l0 H0 n0 s0 h0 => ?_
  fail "ww"
  refine r_isR (s0 _ _ hdd) kd.x kd.k0 ?_
  fail "ww"
  refine r_isR (s0 _ _ hdd) kd.x kd.k1 ?_
  fail "ww"
  refine r_isR (s0 _ _ hdd) kd.x kd.k2 ?_
  fail "ww"
  refine new_ fun l1 H1 n1 s1 h1 => ?_
  have u1 := s0.trans s1
  fail "ww"
  refine r_isR (u1 _ _ hdd) kd.x kd.k3 ?_
  fail "ww"
  refine r_isR (u1 _ _ hdd) kd.x kd.k4 ?_
  fail "ww"
  refine new_ fun l2 H2 n2 s2 h2 => ?_
  refine n_cat (xs := [.bl _, .bl _, .bl _]) (ys := [.bl _, .bl _]) (s2 _ _ h1) h2 (size_le (by simp)) (new_ fun l3 H3 n3 s3 h3 => ?_)
  have u3 := u1.trans (s2.trans s3)
  have h03 := s3 _ _ (s2 _ _ (s1 _ _ h0))
  clear s0 s1 s2 s3 n0 n1 n2 n3 h1 h2 u1 h0
  fail "ww"
  refine r_isR (u3 _ _ hdd) kd.x kd.k5 ?_
  fail "ww"
  refine r_isR (u3 _ _ hdd) kd.x kd.k6 ?_
  fail "ww"
  refine new_ fun l4 H4 n4 s4 h4 => ?_
  refine n_cat (xs := [.bl _, .bl _, .bl _, .bl _, .bl _]) (ys := [.bl _, .bl _]) (s4 _ _ h3) h4 (size_le (by simp)) (new_ fun l5 H5 n5 s5 h5 => ?_)
  have u5 := u3.trans (s4.trans s5)
  have h05 := s5 _ _ (s4 _ _ h03)
  clear s4 s5 n4 n5 h3 h4 u3 h03
  fail "ww"
  refine ⟨l5, fgs j, .bl true, rfl, rfl, sq h5, rfl, rfl, ?_⟩
  rw [fgs_count kd.lt]
  fail "ww"
  rw [decide_eq_true (show ((1 : Nat) : Int) = 1 from rfl), if_neg (by decide)]
  fail "ww"
  refine r_isT (u5 _ _ hdd) kd.x kd.k8 ?_
  fail "ww"
  refine ⟨l5, fgs j, .bl true, j, .bl true, rfl, rfl, sq h5, rfl, rfl, (fgs_at kd.lt).1, rfl, (fgs_at kd.lt).2, ?_⟩
  fail "ww"
  refine r_ixL (v := .str (nmS j)) (sq h05) ?_ ?_
  · have := kd.lt
    have : j = 0 ∨ j = 1 ∨ j = 2 ∨ j = 3 ∨ j = 4 ∨ j = 5 ∨ j = 6 := by omega
    rcases this with e | e | e | e | e | e | e <;> subst e <;> rfl
  fail "ww"
  refine ⟨rfl, _, _, _, _, rfl, rfl, kd.xf, kd.no, u5 _ _ hdd, rfl, ?_⟩
  fail "ww"
  refine new_ fun l6 H6 n6 s6 h6 => ?_
  exact k _ _ (u5.trans s6) (u5.free n6) h6
def sp_law_kind (K : PySem.W.Frag) (T : Txt K mg) : Sp := fun vs H Q _ => ∃ (a D : Addr) (y : V) (j : Nat), vs = [.ref a] ∧ Exn H a D y ∧ Kq K T D j ∧
  ∀ (H' : Hp) (p : Addr), Same H H' → H p = none → H' p = some (.lst [.str (nmS j), y]) → Q (.ref p) H'
theorem ok_law_kind (T : Txt K mg) : FnG P w K mg base CX0 1 T.law_kind_a T.law_kind_d ["caught"] (sp_law_kind K T) := by
  refine okG T.law_kind_F sc_law_kind (fun vs H Q E h => ?_) (fun cdv A ou t H vs Q E hG hr h => ?_)
  · obtain ⟨_, _, _, _, rfl, _⟩ := h; rfl
  have nd := sc_law_kind.nd
  obtain ⟨a, D, y, j, rfl, hdd, kd, k⟩ := h
  refine ⟨_, (pss_cons (sset 1 nd (pe_lst (pa_cons pe_str (pa_cons pe_str (pa_cons pe_str (pa_cons pe_str (pa_cons pe_str (pa_cons pe_str (pa_cons pe_str pa_nil)))))))))
      (pss_cons (sset 2 nd (pe_lst (pa_cons (pe_callB (isOK K) (by rfl) T.m_isinstance (by decide +kernel) (pa_cons (pv 0) (pa_cons (pe_glob (v := .ref T.InvalidSize_a) (by rfl) T.InvalidSize_g rfl) pa_nil))) (pa_cons (pe_callB (isOK K) (by rfl) T.m_isinstance (by decide +kernel) (pa_cons (pv 0) (pa_cons (pe_glob (v := .ref T.InvalidCommand_a) (by rfl) T.InvalidCommand_g rfl) pa_nil))) (pa_cons (pe_callB (isOK K) (by rfl) T.m_isinstance (by decide +kernel) (pa_cons (pv 0) (pa_cons (pe_glob (v := .ref T.InvalidRow_a) (by rfl) T.InvalidRow_g rfl) pa_nil))) pa_nil)))))
      (pss_cons (sset 2 nd (pe_op op_cat (pv 2) (pe_lst (pa_cons (pe_callB (isOK K) (by rfl) T.m_isinstance (by decide +kernel) (pa_cons (pv 0) (pa_cons (pe_glob (v := .ref T.InvalidNumber_a) (by rfl) T.InvalidNumber_g rfl) pa_nil))) (pa_cons (pe_callB (isOK K) (by rfl) T.m_isinstance (by decide +kernel) (pa_cons (pv 0) (pa_cons (pe_glob (v := .ref T.UnequalSizes_a) (by rfl) T.UnequalSizes_g rfl) pa_nil))) pa_nil)))))
      (pss_cons (sset 2 nd (pe_op op_cat (pv 2) (pe_lst (pa_cons (pe_callB (isOK K) (by rfl) T.m_isinstance (by decide +kernel) (pa_cons (pv 0) (pa_cons (pe_glob (v := .ref T.NothingToUndo_a) (by rfl) T.NothingToUndo_g rfl) pa_nil))) (pa_cons (pe_callB (isOK K) (by rfl) T.m_isinstance (by decide +kernel) (pa_cons (pv 0) (pa_cons (pe_glob (v := .ref T.Unreadable_a) (by rfl) T.Unreadable_g rfl) pa_nil))) pa_nil)))))
      (pss_cons (ps_if (PW.pt (pw_or (pt_cmpR op_ne (pe_bmK K PySem.F.plainAttrs_list PySem.F.slot_list_count PySem.F.type_list_count (lcountF K) (pv 2) (pa_cons pe_bl pa_nil)) pe_int (nomark _)) (pw_or1 (pt_not (pt_val (pe_callB (isOK K) (by rfl) T.m_isinstance (by decide +kernel) (pa_cons (pv 0) (pa_cons (pe_bltn (v := .ty "ValueError") (u := .type "ValueError") (by rfl) T.m_ValueError (by decide +kernel) rfl) pa_nil))))))))
        (pss_one (ps_ret pe_str))
        pss_nil)
      (pss_one (ps_ret (pe_lst (pa_cons (pe_ix (ix_listK K) (pv 1) (pe_bmK K PySem.F.plainAttrs_list PySem.F.slot_list_index PySem.F.type_list_index (lindexK K) (pv 2) (pa_cons pe_bl pa_nil)) (fun _ _ => rfl)) (pa_cons (pe_xfOK K (pv 0)) pa_nil)))))))))), ?_⟩
  fail "ww"
  refine new_ fun l0 H0 n0 s0 h0 => ?_
  fail "ww"
  refine r_isO (hdd.same s0) (fun _ r => r) kd.x kd.k0 ?_
  fail "ww"
  refine r_isO (hdd.same s0) (fun _ r => r) kd.x kd.k1 ?_
  fail "ww"
  refine r_isO (hdd.same s0) (fun _ r => r) kd.x kd.k2 ?_
  fail "ww"
  refine new_ fun l1 H1 n1 s1 h1 => ?_
  have u1 := s0.trans s1
  fail "ww"
  refine r_isO (hdd.same u1) (fun _ r => r) kd.x kd.k3 ?_
  fail "ww"
  refine r_isO (hdd.same u1) (fun _ r => r) kd.x kd.k4 ?_
  fail "ww"
  refine new_ fun l2 H2 n2 s2 h2 => ?_
  refine n_cat (xs := [.bl _, .bl _, .bl _]) (ys := [.bl _, .bl _]) (s2 _ _ h1) h2 (size_le (by simp)) (new_ fun l3 H3 n3 s3 h3 => ?_)
  have u3 := u1.trans (s2.trans s3)
  have h03 := s3 _ _ (s2 _ _ (s1 _ _ h0))
  clear s0 s1 s2 s3 n0 n1 n2 n3 h1 h2 u1 h0
  fail "ww"
  refine r_isO (hdd.same u3) (fun _ r => r) kd.x kd.k5 ?_
  fail "ww"
  refine r_isO (hdd.same u3) (fun _ r => r) kd.x kd.k6 ?_
  fail "ww"
  refine new_ fun l4 H4 n4 s4 h4 => ?_
  refine n_cat (xs := [.bl _, .bl _, .bl _, .bl _, .bl _]) (ys := [.bl _, .bl _]) (s4 _ _ h3) h4 (size_le (by simp)) (new_ fun l5 H5 n5 s5 h5 => ?_)
  have u5 := u3.trans (s4.trans s5)
  have h05 := s5 _ _ (s4 _ _ h03)
  clear s4 s5 n4 n5 h3 h4 u3 h03
  fail "ww"
  refine ⟨l5, fgs j, .bl true, rfl, rfl, sq h5, rfl, rfl, ?_⟩
  rw [fgs_count kd.lt]
  fail "ww"
  rw [decide_eq_true (show ((1 : Nat) : Int) = 1 from rfl), if_neg (by decide)]
  fail "ww"
  refine r_isO (hdd.same u5) (fun _ r => r) kd.x kd.k8 ?_
  fail "ww"
  refine ⟨l5, fgs j, .bl true, j, .bl true, rfl, rfl, sq h5, rfl, rfl, (fgs_at kd.lt).1, rfl, (fgs_at kd.lt).2, ?_⟩
  fail "ww"
  refine r_ixL (v := .str (nmS j)) (sq h05) ?_ ?_
  · have := kd.lt
    have : j = 0 ∨ j = 1 ∨ j = 2 ∨ j = 3 ∨ j = 4 ∨ j = 5 ∨ j = 6 := by omega
    rcases this with e | e | e | e | e | e | e <;> subst e <;> rfl
  fail "ww"
  refine ⟨a, D, y, rfl, hdd.same u5, kd.xf, kd.no, ?_⟩
  fail "ww"
  refine new_ fun l6 H6 n6 s6 h6 => ?_
  exact k _ _ (u5.trans s6) (u5.free n6) h6
def sp_law_commands (K : PySem.W.Frag) : Sp := fun vs H Q _ => ∃ (r : Addr) (wide most m : Nat), vs = [.ref r, .int wide, .int most] ∧ Rng H r m ∧ 1 ≤ wide ∧ wide ≤ 1000 ∧ most ≤ 10000 ∧ m < 2 ^ 40 ∧
  ∀ (H' : Hp) (p : Addr) (ts : List Addr) (cs : List Cmd), Sx r H H' → H p = none → Rng H' r (m + 1 + 4 * most) → H' p = some (.lst (ts.map V.ref)) → Cm H' ts cs → Fits wide cs → cs.length ≤ most → Q (.ref p) H'
theorem ok_law_commands (T : Txt K mg) : FnG P w K mg base CX0 2 T.law_commands_a T.law_commands_d ["rng", "wide", "most"] (sp_law_commands K) := by
  refine okG T.law_commands_F sc_law_commands (fun vs H Q E h => ?_) (fun cdv A ou t H vs Q E hG hr h => ?_)
  · obtain ⟨_, _, _, _, rfl, _⟩ := h; rfl
  have nd := sc_law_commands.nd
  obtain ⟨r, wide, most, m, rfl, hR, hw1, hw, hmost, hm, q⟩ := h
  refine ⟨_, (pss_cons (sset 3 nd (pe_lst pa_nil))
      (pss_cons (ps_for PassesOwn.never rfl (pi_range1 (by rfl) T.m_range (pa_cons (pe_callG (ok_law_draw T) hG (hr.mono (by decide)) (by rfl) T.law_draw_g T.law_draw_F.kp T.law_draw_b .nil pass0 (pa_cons (pv 0) (pa_cons (pe_op op_add (pv 2) pe_int) pa_nil))) pa_nil)) (gset 4 nd)
        (pss_cons (sset 5 nd (pe_op op_add pe_int (pe_callG (ok_law_draw T) hG (hr.mono (by decide)) (by rfl) T.law_draw_g T.law_draw_F.kp T.law_draw_b .nil pass0 (pa_cons (pv 0) (pa_cons (pv 1) pa_nil)))))
      (pss_cons (sset 6 nd (pe_ix (ix_listK K) (pe_lst (pa_cons (pv 5) (pa_cons (pe_callB (call_min2 rfl) (by rfl) T.m_min (by decide +kernel) (pa_cons (pv 1) (pa_cons (pe_op op_add (pv 5) pe_int) pa_nil))) (pa_cons (pe_op op_add (pv 5) (pe_callG (ok_law_draw T) hG (hr.mono (by decide)) (by rfl) T.law_draw_g T.law_draw_F.kp T.law_draw_b .nil pass0 (pa_cons (pv 0) (pa_cons (pe_op op_add (pe_op op_sub (pv 1) (pv 5)) pe_int) pa_nil)))) (pa_cons (pv 1) pa_nil))))) (pe_callG (ok_law_draw T) hG (hr.mono (by decide)) (by rfl) T.law_draw_g T.law_draw_F.kp T.law_draw_b .nil pass0 (pa_cons (pv 0) (pa_cons pe_int pa_nil))) (fun _ _ => rfl)))
      (pss_cons (sset 7 nd (pe_and (pe_cmpR (neDK K hr.units) (pv 3) (pe_lst pa_nil) (nomark _)) (pe_one (pe_cmpR op_eq (pe_callG (ok_law_draw T) hG (hr.mono (by decide)) (by rfl) T.law_draw_g T.law_draw_F.kp T.law_draw_b .nil pass0 (pa_cons (pv 0) (pa_cons pe_int pa_nil))) pe_int (nomark _)))))
      (pss_one (ps_expr (pe_bmK K PySem.F.plainAttrs_list PySem.F.slot_list_append PySem.F.type_list_append mt_append (pv 3) (pa_cons (pe_ifExp (pt_val (pv 7)) (pe_ix (ix_listK K) (pv 3) (pe_un un_neg pe_int) (fun _ _ => rfl)) (pe_tup (pa_cons (pv 5) (pa_cons (pv 6) pa_nil)))) pa_nil))))))))
      (pss_one (ps_ret (pv 3))))), ?_⟩
  fail "g"
  intro p np
  fail "g"
  have hpr := hR.ne np
  have hR1 := hR.same (same_new (o := .lst []) np)
  have s1 := Sx.new (r := r) (o := .lst []) np
  refine ⟨r, _, m, rfl, hR1, by omega, by omega, by omega, fun H2 n0 hn0 hn1 s2 hR2 => ?_⟩
  obtain ⟨n, rfl⟩ := Int.eq_ofNat_of_zero_le hn0
  have hP2 := s2 _ _ hpr upd_same
  have s3 := s1.trans s2
  fail "g"
  refine ⟨by omega, by omega, ?_⟩
  refine forF walk_range (fun i σ' H' => ∃ (ts : List Addr) (cs : List Cmd) (y4 y5 y6 y7 : Option V), σ' = [some (.ref r), some (.int wide), some (.int most), some (.ref p), y4, y5, y6, y7] ∧ cs.length = i ∧ H' p = some (.lst (ts.map V.ref)) ∧ Cm H' ts cs ∧ Fits wide cs ∧ Sx r H H' ∧ Rng H' r (m + 1 + 4 * i))
    ⟨[], [], none, none, none, none, rfl, rfl, hP2, Cm.nil, (fun c hc => by cases hc), s3, hR2⟩ (fun _ _ _ _ _ => trivial) (fun i σ' H' hi p' => ?_) (fun σ' H' p' => ?_)
  · obtain ⟨ts, cs, y4, y5, y6, y7, rfl, hlen, hP, hC, hF, sH, hRi⟩ := p'
    fail "g"
    refine ⟨r, wide, _, rfl, hRi, by omega, by omega, by omega, fun H3 e0 he0 he1 s4 hR3 => ?_⟩
    obtain ⟨e, rfl⟩ := Int.eq_ofNat_of_zero_le he0
    fail "g"
    have hP3 := s4 _ _ hpr hP
    have hC3 := hC.sx hRi s4
    refine ⟨r, _, _, rfl, hR3, by omega, by omega, by omega, fun H4 f0 hf0 hf1 s5 hR4 => ?_⟩
    obtain ⟨f, rfl⟩ := Int.eq_ofNat_of_zero_le hf0
    have hP4 := s5 _ _ hpr hP3
    have hC4 := hC3.sx hR3 s5
    fail "g"
    intro lx nx
    fail "g"
    have hlr := hR4.ne nx
    have hR5 := hR4.same (same_new (o := .lst [.int (1 + (e : Int)), .int (if 1 + (e : Int) + 1 < (wide : Int) then 1 + (e : Int) + 1 else (wide : Int)), .int (1 + (e : Int) + (f : Int)), .int wide]) nx)
    have hP5 := upd_old (o := .lst [.int (1 + (e : Int)), .int (if 1 + (e : Int) + 1 < (wide : Int) then 1 + (e : Int) + 1 else (wide : Int)), .int (1 + (e : Int) + (f : Int)), .int wide]) nx hP4
    have hC5 := hC4.same (same_new (o := .lst [.int (1 + (e : Int)), .int (if 1 + (e : Int) + 1 < (wide : Int) then 1 + (e : Int) + 1 else (wide : Int)), .int (1 + (e : Int) + (f : Int)), .int wide]) nx)
    have sH5 := ((sH.trans s4).trans s5).same (same_new (o := .lst [.int (1 + (e : Int)), .int (if 1 + (e : Int) + 1 < (wide : Int) then 1 + (e : Int) + 1 else (wide : Int)), .int (1 + (e : Int) + (f : Int)), .int wide]) nx)
    refine ⟨r, _, _, rfl, hR5, by omega, by decide, by decide, fun H6 d hd0 hd1 s6 hR6 => ?_⟩
    have hlx := s6 _ _ hlr upd_same
    obtain ⟨L, hat, hL1, hL2⟩ : ∃ L : Nat, atI [V.int (1 + (e : Int)), V.int (if 1 + (e : Int) + 1 < (wide : Int) then 1 + (e : Int) + 1 else (wide : Int)), V.int (1 + (e : Int) + (f : Int)), V.int wide] d = some (.int L) ∧ 1 + e ≤ L ∧ L ≤ wide := by
      have : d = 0 ∨ d = 1 ∨ d = 2 ∨ d = 3 := by omega
      rcases this with h | h | h | h <;> subst h
      · exact ⟨1 + e, congrArg some (congrArg V.int (by omega)), Nat.le_refl _, by omega⟩
      · by_cases h : 1 + e + 1 < wide
        · exact ⟨1 + e + 1, congrArg some (congrArg V.int (by rw [if_pos (by omega)]; omega)), by omega, by omega⟩
        · exact ⟨wide, congrArg some (congrArg V.int (by rw [if_neg (by omega)])), by omega, by omega⟩
      · exact ⟨1 + e + f, congrArg some (congrArg V.int (by omega)), by omega, by omega⟩
      · exact ⟨wide, rfl, by omega, by omega⟩
    have hP6 := s6 _ _ hpr hP5
    have hC6 := hC5.sx hR5 s6
    have sH6 := sH5.trans s6
    clear hP hC hP3 hC3 hP4 hC4 hP5 hC5 sH sH5 s4 s5 s6 nx
    fail "g"
    refine r_ixL (sq hlx) hat ?_
    fail "g"
    intro z0 nz
    have hP7 := upd_old (o := .lst []) nz hP6
    have hC7 := hC6.same (same_new (o := .lst []) nz)
    have sH7 := sH6.same (same_new (o := .lst []) nz)
    have hR7 := hR6.same (same_new (o := .lst []) nz)
    refine r_neNilC (sq hP7) hC7 (sq upd_same) ?_
    fail "g"
    have fin : ∀ (H9 : Hp) (t : Addr) (c : Cmd) (y7' : Option V), Sx r H H9 → Rng H9 r (m + 1 + 4 * (i + 1)) → H9 p = some (.lst (ts.map V.ref)) → Cm H9 ts cs → H9 t = some (.tup [.int (c.1 : Nat), .int (c.2 : Nat)]) → (1 ≤ c.1 ∧ c.1 ≤ c.2 ∧ c.2 ≤ wide) →
        ∃ (ts' : List Addr) (cs' : List Cmd) (y4' y5' y6' y7'' : Option V), [some (V.ref r), some (.int wide), some (.int most), some (.ref p), some (.int (0 + (i : Int))), some (.int (1 + (e : Int))), some (.int (L : Int)), y7'] = [some (.ref r), some (.int wide), some (.int most), some (.ref p), y4', y5', y6', y7''] ∧ cs'.length = i + 1 ∧
          (upd H9 p (.lst (ts.map V.ref ++ [.ref t]))) p = some (.lst (ts'.map V.ref)) ∧ Cm (upd H9 p (.lst (ts.map V.ref ++ [.ref t]))) ts' cs' ∧ Fits wide cs' ∧ Sx r H (upd H9 p (.lst (ts.map V.ref ++ [.ref t]))) ∧ Rng (upd H9 p (.lst (ts.map V.ref ++ [.ref t]))) r (m + 1 + 4 * (i + 1)) :=
      fun H9 t c y7' a1 a2 a3 a4 a5 a6 => ⟨ts ++ [t], cs ++ [c], _, _, _, _, rfl, by rw [List.length_append, hlen]; rfl, by rw [upd_same, List.map_append]; rfl,
        (a4.snoc a5).put a3, (fun c' hc' => by
          rcases List.mem_append.mp hc' with h | h
          · exact hF c' h
          · rw [List.mem_singleton.mp h]; exact a6), a1.old np, a2.other hpr⟩
    refine r_ndec (fun h => ?_) (fun h => ?_)
    · fail "g"
      refine ⟨r, _, _, rfl, hR7, by omega, by decide, by decide, fun H8 g hg0 hg1 s8 hR8 => ?_⟩
      have hP8 := s8 _ _ hpr hP7
      have hC8 := hC7.sx hR7 s8
      have sH8 := sH7.trans s8
      fail "g"
      refine r_dec (fun h2 => ?_) (fun h2 => ?_)
      · have hpos : 0 < cs.length := List.length_pos_iff.mpr h
        obtain ⟨t, et, ht⟩ := hC8.idx (i := cs.length - 1) (by omega)
        fail "g"
        have hat : atI (ts.map V.ref) (-1) = some (.ref t) := by
          have e1 : ts = ts.take (ts.length - 1) ++ [t] := by
            have hl := hC8.len
            have := List.take_append_drop (ts.length - 1) ts
            conv => lhs; rw [← this]
            congr 1
            rw [List.drop_eq_getElem_cons (by omega)]
            rw [← hl, List.getElem?_eq_getElem (by omega)] at et
            rw [Option.some.inj et, show ts.length - 1 + 1 = ts.length by omega, List.drop_length]
          rw [e1, List.map_append]
          exact atI_last _ _
        refine r_ixL (sq hP8) hat ?_
        fail "g"
        refine r_append hP8 (by rw [List.length_map, hC8.len]; exact size_lt (by omega)) ?_
        fail "g"
        exact fin _ t _ _ sH8 (hR8.le (by omega)) hP8 hC8 ht (hF _ (List.getElem_mem _))
      · fail "g"
        intro t nt
        fail "g"
        refine r_append (upd_old nt hP8) (by rw [List.length_map, hC8.len]; exact size_lt (by omega)) ?_
        fail "g"
        exact fin _ t (1 + e, L) _ (sH8.same (same_new nt)) ((hR8.same (same_new nt)).le (by omega)) (upd_old nt hP8) (hC8.same (same_new nt)) (by rw [upd_same, show ((1 + e : Nat) : Int) = 1 + (e : Int) by omega]) ⟨by omega, hL1, hL2⟩
    · fail "g"
      intro t nt
      fail "g"
      refine r_append (upd_old nt hP7) (by rw [List.length_map, hC7.len]; exact size_lt (by omega)) ?_
      fail "g"
      exact fin _ t (1 + e, L) _ (sH7.same (same_new nt)) ((hR7.same (same_new nt)).le (by omega)) (upd_old nt hP7) (hC7.same (same_new nt)) (by rw [upd_same, show ((1 + e : Nat) : Int) = 1 + (e : Int) by omega]) ⟨by omega, hL1, hL2⟩
  · obtain ⟨ts, cs, y4, y5, y6, y7, rfl, hlen, hP, hC, hF, sH, hRi⟩ := p'
    fail "g"
    rw [Int.toNat_natCast] at hlen hRi
    exact q _ _ ts cs sH np (hRi.le (by omega)) hP hC hF (by omega)
def sp_law_arranged (K : PySem.W.Frag) : Sp := fun vs H Q _ => ∃ (r : Addr) (wide m : Nat), vs = [.ref r, .int wide] ∧ Rng H r m ∧ wide ≤ 1000 ∧ m < 2 ^ 50 ∧
  ∀ (H' : Hp) (p : Addr) (l : List Int), Sx r H H' → H p = none → Rng H' r (m + wide) → H' p = some (.lst (l.map V.int)) → l.Perm (asc wide) → Q (.ref p) H'
theorem ok_law_arranged (T : Txt K mg) : FnG P w K mg base CX0 2 T.law_arranged_a T.law_arranged_d ["rng", "wide"] (sp_law_arranged K) := by
  refine okG T.law_arranged_F sc_law_arranged (fun vs H Q E h => ?_) (fun cdv A ou t H vs Q E hG hr h => ?_)
  · obtain ⟨_, _, _, rfl, _⟩ := h; rfl
  have nd := sc_law_arranged.nd
  obtain ⟨r, wide, m, rfl, hR, hw, hm, q⟩ := h
  refine ⟨_, (pss_cons (ps_par (i := 2) (j := 3) (by rfl) nd rfl rfl (by decide) rfl rfl (pa_cons (pe_listRg rfl (by rfl) T.m_list (prg_2 (by rfl) T.m_range pe_int (pe_op op_add (pv 1) pe_int))) (pa_cons (pe_lst pa_nil) pa_nil)) (by rfl))
      (pss_cons (ps_while PassesOwn.never (pt_cmpR (neDK K hr.units) (pv 2) (pe_lst pa_nil) (nomark _))
        (pss_one (ps_expr (pe_bmK K PySem.F.plainAttrs_list PySem.F.slot_list_append PySem.F.type_list_append mt_append (pv 3) (pa_cons (pe_bmK K PySem.F.plainAttrs_list PySem.F.slot_list_pop PySem.F.type_list_pop mt_popAt (pv 2) (pa_cons (pe_callG (ok_law_draw T) hG (hr.mono (by decide)) (by rfl) T.law_draw_g T.law_draw_F.kp T.law_draw_b .nil pass0 (pa_cons (pv 0) (pa_cons (pe_callB (lenK K) (by rfl) T.m_len PySem.boot_len (pa_cons (pv 2) pa_nil)) pa_nil))) pa_nil)) pa_nil)))))
      (pss_one (ps_ret (pv 3))))), ?_⟩
  fail "g"
  refine ⟨RgOk.of_le (by omega) (by omega) (by omega) (by omega), fun l0 nl => ?_⟩
  fail "g"
  intro f0 nf
  fail "g"
  rw [rg_asc] at nf ⊢
  have hlr : l0 ≠ r := hR.ne nl
  have s1 := Sx.new (r := r) (o := .lst ((asc wide).map V.int)) nl
  have hR1 := hR.same (same_new (o := .lst ((asc wide).map V.int)) nl)
  have hfr : f0 ≠ r := hR1.ne nf
  have hfl : f0 ≠ l0 := (ne_of_none upd_same nf).symm
  have hf0 : H f0 = none := hR1.free s1 nf
  have s2 := s1.old (o := .lst []) hf0
  have hR2 := hR1.same (same_new (o := .lst []) nf)
  refine r_while (fun k σ' H' => ∃ l1 l2 : List Int, σ' = [some (.ref r), some (.int wide), some (.ref l0), some (.ref f0)] ∧ k = l1.length ∧ l1.length + l2.length = wide ∧ (l1 ++ l2).Perm (asc wide) ∧
    H' l0 = some (.lst (l1.map V.int)) ∧ H' f0 = some (.lst (l2.map V.int)) ∧ Sx r H H' ∧ Rng H' r (m + l2.length)) wide ?_ (fun k σ' H' p => ?_)
  · exact ⟨asc wide, [], rfl, (asc_length _).symm, by rw [asc_length]; rfl, by rw [List.append_nil], upd_old nf upd_same, upd_same, s2, hR2⟩
  · obtain ⟨l1, l2, rfl, rfl, hlen, hperm, h1, h2, s3, hR3⟩ := p
    fail "g"
    intro e0 ne
    have h1' : (upd H' e0 (.lst [])) l0 = some (.lst (l1.map V.int)) := upd_old ne h1
    have h2' : (upd H' e0 (.lst [])) f0 = some (.lst (l2.map V.int)) := upd_old ne h2
    have he0 : H e0 = none := hR3.free s3 ne
    have s4 := s3.old (o := .lst []) he0
    have hR4 := hR3.same (same_new (o := .lst []) ne)
    refine r_neL (ms := []) (sq h1') (sq upd_same) ?_
    fail "g"
    refine r_ndec (fun h => r_turn ?_) (fun h => ?_)
    · fail "g"
      have hpos : 0 < l1.length := List.length_pos_iff.mpr h
      refine ⟨r, _, m + l2.length, rfl, hR4, by omega, by rw [List.length_map]; omega, by rw [List.length_map]; omega, fun H5 d hd0 hd1 s5 hR5 => ?_⟩
      rw [List.length_map] at hd1
      obtain ⟨j, rfl⟩ := Int.eq_ofNat_of_zero_le hd0
      have hj : j < l1.length := by omega
      have h15 := s5 _ _ hlr h1'
      have h25 := s5 _ _ hfr h2'
      fail "g"
      refine r_popAt (k := j) h15 rfl (y := .int l1[j]) (by simp [hj]) (by omega) ?_
      have h26 : (upd H5 l0 (.lst ((l1.map V.int).eraseIdx j))) f0 = some (.lst (l2.map V.int)) := upd_to hfl h25
      fail "g"
      refine r_append h26 (by rw [List.length_map]; exact size_lt (by omega)) ?_
      rw [map_snoc]
      have h17 : (upd (upd H5 l0 (.lst ((l1.map V.int).eraseIdx j))) f0 (.lst ((l2 ++ [l1[j]]).map V.int))) l0 = some (.lst ((l1.eraseIdx j).map V.int)) := by
        rw [← erase_map]
        exact upd_to hfl.symm upd_same
      have hl : (l1.eraseIdx j).length = l1.length - 1 := List.length_eraseIdx_of_lt hj
      refine ⟨(l1.eraseIdx j).length, by omega, l1.eraseIdx j, l2 ++ [l1[j]], rfl, rfl, by rw [List.length_append, hl, List.length_singleton]; omega, ?_, h17, upd_same, ((s4.trans s5).old nl).old hf0, ?_⟩
      · refine List.Perm.trans ?_ hperm
        have e := erase_perm l1 j hj
        refine List.Perm.trans ?_ (e.append_right l2)
        rw [List.cons_append]
        refine List.Perm.trans (List.Perm.append_left _ (List.perm_append_comm)) ?_
        exact List.perm_middle
      · rw [List.length_append, List.length_singleton, ← Nat.add_assoc]
        exact (hR5.other hlr).other hfr
    · fail "g"
      have e : l1 = [] := h
      subst e
      exact q _ _ _ s4 hf0 (hR4.le (by simp at hlen; omega)) h2' hperm
def sp_law_bad_commands (K : PySem.W.Frag) : Sp := fun vs H Q _ => ∃ (r b : Addr) (wide m : Nat) (ts : List Addr) (cs : List Cmd), vs = [.ref r, .int wide, .ref b] ∧ Rng H r m ∧ 1 ≤ wide ∧ wide ≤ 1000 ∧ m < 2 ^ 40 ∧ H b = some (.lst (ts.map V.ref)) ∧ Cm H ts cs ∧ Fits wide cs ∧ cs.length ≤ 1000 ∧
  ∀ (H' : Hp) (p f : Addr) (us : List Addr) (ws : List Pr), Sx r H H' → H p = none → H f = none → Rng H' r (m + 10) → f ≠ p → H' p = some (.lst [.ref f, vIx (eW wide ws)]) → H' f = some (.lst (us.map V.ref)) → Cw H' us ws → ws.length ≤ 1002 → (∀ c ∈ ws, Nt c.1 ∧ Nt c.2) → Q (.ref p) H'
theorem ok_law_bad_commands (T : Txt K mg) : FnG P w K mg base CX0 2 T.law_bad_commands_a T.law_bad_commands_d ["rng", "wide", "some"] (sp_law_bad_commands K) := by
  refine okG T.law_bad_commands_F sc_law_bad_commands (fun vs H Q E h => ?_) (fun cdv A ou t H vs Q E hG hr h => ?_)
  · obtain ⟨_, _, _, _, _, _, rfl, _⟩ := h; rfl
  have nd := sc_law_bad_commands.nd
  obtain ⟨r, b, wide, m, ts, cs, rfl, hR, hw1, hw, hm, hB, hC, hF, hcl, k⟩ := h
  refine ⟨_, (pss_cons (sset 3 nd (pe_callTy (listK K) (by rfl) T.m_list (by decide +kernel) (pa_cons (pv 2) pa_nil)))
      (pss_cons (ps_for PassesOwn.never rfl (pi_range1 (by rfl) T.m_range (pa_cons (pe_ix (ix_listK K) (pe_lst (pa_cons pe_int (pa_cons pe_int (pa_cons pe_int (pa_cons pe_int pa_nil))))) (pe_callG (ok_law_draw T) hG (hr.mono (by decide)) (by rfl) T.law_draw_g T.law_draw_F.kp T.law_draw_b .nil pass0 (pa_cons (pv 0) (pa_cons pe_int pa_nil))) (fun _ _ => rfl)) pa_nil)) (gset 4 nd)
        (pss_cons (sset 5 nd (pe_op op_add pe_int (pe_callG (ok_law_draw T) hG (hr.mono (by decide)) (by rfl) T.law_draw_g T.law_draw_F.kp T.law_draw_b .nil pass0 (pa_cons (pv 0) (pa_cons (pe_op op_powW pe_int pe_int) pa_nil)))))
      (pss_cons (sset 6 nd (pe_lst (pa_cons (pe_tup (pa_cons pe_int (pa_cons pe_int pa_nil))) (pa_cons (pe_tup (pa_cons pe_int (pa_cons (pv 1) pa_nil))) (pa_cons (pe_tup (pa_cons pe_int (pa_cons pe_int pa_nil))) (pa_cons (pe_tup (pa_cons (pe_op op_add (pv 1) pe_int) (pa_cons (pv 1) pa_nil))) (pa_cons (pe_tup (pa_cons pe_int (pa_cons (pe_op op_add (pv 1) pe_int) pa_nil))) (pa_cons (pe_tup (pa_cons (pe_op op_add (pv 1) pe_int) (pa_cons (pe_op op_add (pv 1) pe_int) pa_nil))) (pa_cons (pe_tup (pa_cons (pe_op op_sub pe_int (pv 5)) (pa_cons pe_int pa_nil))) pa_nil)))))))))
      (pss_cons (sset 6 nd (pe_op op_cat (pv 6) (pe_lst (pa_cons (pe_tup (pa_cons pe_int (pa_cons (pe_op op_add (pv 1) (pv 5)) pa_nil))) (pa_cons (pe_tup (pa_cons pe_int (pa_cons pe_int pa_nil))) (pa_cons (pe_tup (pa_cons pe_int (pa_cons pe_int pa_nil))) (pa_cons (pe_tup (pa_cons pe_int (pa_cons (pe_op op_sub pe_int (pv 5)) pa_nil))) pa_nil)))))))
      (pss_one (ps_expr (pe_bmK K PySem.F.plainAttrs_list PySem.F.slot_list_insert PySem.F.type_list_insert mt_insert (pv 3) (pa_cons (pe_callG (ok_law_draw T) hG (hr.mono (by decide)) (by rfl) T.law_draw_g T.law_draw_F.kp T.law_draw_b .nil pass0 (pa_cons (pv 0) (pa_cons (pe_op op_add (pe_callB (lenK K) (by rfl) T.m_len PySem.boot_len (pa_cons (pv 3) pa_nil)) pe_int) pa_nil))) (pa_cons (pe_ix (ix_listK K) (pv 6) (pe_callG (ok_law_draw T) hG (hr.mono (by decide)) (by rfl) T.law_draw_g T.law_draw_F.kp T.law_draw_b .nil pass0 (pa_cons (pv 0) (pa_cons pe_int pa_nil))) (fun _ _ => rfl)) pa_nil)))))))))
      (pss_cons (ps_setLc (i := 7) (hy := rfl) (hyl := rfl) (hsw := sw_true rfl rfl rfl (by decide +kernel)) (own := [("spot", 8), ("early", 9), ("late", 10)]) (hc := rfl) (hN := nd) (hi := (pi_enumK K (by rfl) T.m_enumerate (pa_cons (pv 3) pa_nil))) (ok := blkOk_by (by rfl)) (hg := fun _ _ _ _ _ => (pg_tupK K 2 rfl (pgs_cons (gset 8 nd) (pgs_cons (pg_tupK K 2 rfl (pgs_cons (gset 9 nd) (pgs_cons (gset 10 nd) pgs_nil))) pgs_nil)))) (ht := (fun _ _ _ _ _ => pts_one (PW.pt (pw_or (pt_cmpR op_lt (pv 9) pe_int (nomark _)) (pw_or (pt_cmpR op_lt (pv 10) (pv 9) (nomark _)) (pw_or1 (pt_cmpR op_gt (pv 10) (pv 1) (nomark _)))))))) (he := fun _ _ _ _ _ => (pv 8)))
      (pss_one (ps_ret (pe_lst (pa_cons (pv 3) (pa_cons (pe_ifExp (pt_cmpR (neDK K hr.units) (pv 7) (pe_lst pa_nil) (nomark _)) (pe_ix (ix_listK K) (pv 7) pe_int (fun _ _ => rfl)) pe_non) pa_nil)))))))), ?_⟩
  have small : ∀ z : Nat, z ≤ 10000 → Nt (z : Int) := fun z hz => by unfold Nt; rw [Int.natAbs_natCast]; exact Nat.le_trans hz (by decide)
  fail "ww"
  refine new_ fun p H1 np s1 hp => ?_
  fail "ww"
  refine new_ fun lx H2 nx s2 hx => ?_
  fail "ww"
  have hR2 := (hR.same s1).same s2
  have hxr := (hR.same s1).ne nx
  have hpr := hR.ne np
  have hp2 := s2 _ _ hp
  have hW2 : Cw H2 ts (cs.map toW) := ((hC.same s1).same s2).toCw
  have s12 := s1.trans s2
  refine ⟨r, 4, _, rfl, hR2, by omega, by decide, by decide, fun H3 d hd0 hd1 s3 hR3 => ?_⟩
  obtain ⟨n, hat, hn⟩ : ∃ n : Nat, atI [V.int 0, V.int 0, V.int 1, V.int 2] d = some (.int (n : Int)) ∧ n ≤ 2 := by
    have : d = 0 ∨ d = 1 ∨ d = 2 ∨ d = 3 := by omega
    rcases this with e | e | e | e <;> subst e
    · exact ⟨0, rfl, by decide⟩
    · exact ⟨0, rfl, by decide⟩
    · exact ⟨1, rfl, by decide⟩
    · exact ⟨2, rfl, by decide⟩
  refine r_ixL (sq (s3 _ _ hxr hx)) hat ?_
  fail "ww"
  refine ⟨by omega, by omega, ?_⟩
  have hp3 := s3 _ _ hpr hp2
  have hW3 := hW2.sx hR2 s3
  have sy3 : Sx r H H3 := (Sx.refl.same s12).trans s3
  have hcs0 : ∀ c ∈ cs.map toW, Nt c.1 ∧ Nt c.2 := fun c hc => by
    obtain ⟨e, he, rfl⟩ := List.mem_map.mp hc
    have := hF e he
    exact ⟨small _ (by omega), small _ (by omega)⟩
  clear hx s3 hat s12 hR2 hxr nx s2 s1 hp2 hW2
  refine forF walk_range (fun i σ' H' => ∃ (y4 y5 y6 : Option V) (us : List Addr) (ws : List Pr), σ' = [some (.ref r), some (.int (wide : Int)), some (.ref b), some (.ref p), y4, y5, y6, none, none, none, none] ∧ Sx r H H' ∧ Rng H' r (m + 1 + 3 * i) ∧ H' p = some (.lst (us.map V.ref)) ∧ Cw H' us ws ∧ ws.length ≤ 1000 + i ∧ ∀ c ∈ ws, Nt c.1 ∧ Nt c.2)
    ⟨none, none, none, ts, cs.map toW, rfl, sy3, hR3, hp3, hW3, by rw [List.length_map]; omega, hcs0⟩ (fun _ _ _ _ _ => trivial) (fun i σ' H' hi p' => ?_) (fun σ' H' p' => ?_)
  · clear hp3 hW3 sy3 hR3 hcs0
    obtain ⟨y4, y5, y6, us, ws, rfl, sy, hR4, hp4, hW4, hwl, hbd⟩ := p'
    have hi2 : i < 2 := by omega
    fail "ww"
    refine ⟨r, _, _, rfl, hR4, by omega, by decide, by decide, fun H5 e he0 he1 s5 hR5 => ?_⟩
    have hp5 := s5 _ _ hpr hp4
    have hW5 := hW4.sx hR4 s5
    have sy5 := sy.trans s5
    have hNe : Nt (1 + e) := by
      unfold Nt
      have h0 : e < 100000000000000000000000000000 := he1
      have h1 : (1 + e).natAbs ≤ 100000000000000000000000000000 := by omega
      exact Nat.le_trans h1 (by decide)
    clear hp4 hW4 s5 hR4 sy
    fail "ww"
    refine new_ fun t0 G0 m0 x0 k0 => ?_
    fail "ww"
    refine new_ fun t1 G1 m1 x1 k1 => ?_
    fail "ww"
    refine new_ fun t2 G2 m2 x2 k2 => ?_
    fail "ww"
    refine new_ fun t3 G3 m3 x3 k3 => ?_
    fail "ww"
    refine new_ fun t4 G4 m4 x4 k4 => ?_
    fail "ww"
    refine new_ fun t5 G5 m5 x5 k5 => ?_
    fail "ww"
    refine new_ fun t6 G6 m6 x6 k6 => ?_
    fail "ww"
    refine new_ fun la G7 m7 x7 ha => ?_
    have f7 : Same H5 G7 := x0.trans (x1.trans (x2.trans (x3.trans (x4.trans (x5.trans (x6.trans x7))))))
    replace k0 := x7 _ _ (x6 _ _ (x5 _ _ (x4 _ _ (x3 _ _ (x2 _ _ (x1 _ _ k0))))))
    replace k1 := x7 _ _ (x6 _ _ (x5 _ _ (x4 _ _ (x3 _ _ (x2 _ _ k1)))))
    replace k2 := x7 _ _ (x6 _ _ (x5 _ _ (x4 _ _ (x3 _ _ k2))))
    replace k3 := x7 _ _ (x6 _ _ (x5 _ _ (x4 _ _ k3)))
    replace k4 := x7 _ _ (x6 _ _ (x5 _ _ k4))
    replace k5 := x7 _ _ (x6 _ _ k5)
    replace k6 := x7 _ _ k6
    clear x0 x1 x2 x3 x4 x5 x6 x7 m0 m1 m2 m3 m4 m5 m6 m7
    fail "ww"
    refine new_ fun t7 F7 n7 z7 k7 => ?_
    fail "ww"
    refine new_ fun t8 F8 n8 z8 k8 => ?_
    fail "ww"
    refine new_ fun t9 F9 n9 z9 k9 => ?_
    fail "ww"
    refine new_ fun t10 F10 n10 z10 k10 => ?_
    fail "ww"
    refine new_ fun lb F11 n11 z11 hb => ?_
    have u11 : Same G7 F11 := z7.trans (z8.trans (z9.trans (z10.trans z11)))
    replace k7 := z11 _ _ (z10 _ _ (z9 _ _ (z8 _ _ k7)))
    replace k8 := z11 _ _ (z10 _ _ (z9 _ _ k8))
    replace k9 := z11 _ _ (z10 _ _ k9)
    replace k10 := z11 _ _ k10
    refine n_cat (xs := [.ref t0, .ref t1, .ref t2, .ref t3, .ref t4, .ref t5, .ref t6]) (ys := [.ref t7, .ref t8, .ref t9, .ref t10]) (u11 _ _ ha) hb (size_le (by simp)) (new_ fun lc F12 n12 z12 hc => ?_)
    have u12 : Same G7 F12 := u11.trans z12
    have f12 := f7.trans u12
    replace k0 := u12 _ _ k0
    replace k1 := u12 _ _ k1
    replace k2 := u12 _ _ k2
    replace k3 := u12 _ _ k3
    replace k4 := u12 _ _ k4
    replace k5 := u12 _ _ k5
    replace k6 := u12 _ _ k6
    replace k7 := z12 _ _ k7
    replace k8 := z12 _ _ k8
    replace k9 := z12 _ _ k9
    replace k10 := z12 _ _ k10
    have hpG := f12 _ _ hp5
    have hWG := hW5.same f12
    have hRG := hR5.same f12
    have syG := sy5.same f12
    have hlc := (hR5.same f7).same u11 |>.ne n12
    have neg : ∀ {z : Int}, Nt z → Nt (0 - z) := fun {z} h => by unfold Nt at *; rw [show (0 - z).natAbs = z.natAbs by omega]; exact h
    have hNw : Nt ((wide : Int) + (1 + e)) := by
      unfold Nt
      have h0 : e < 100000000000000000000000000000 := he1
      have h1 : ((wide : Int) + (1 + e)).natAbs ≤ 100000000000000000000000001000 := by omega
      exact Nat.le_trans h1 (by decide)
    have tup : ∀ d : Int, 0 ≤ d → d < 11 → ∃ (t : Addr) (c : Pr), atI [V.ref t0, V.ref t1, V.ref t2, V.ref t3, V.ref t4, V.ref t5, V.ref t6, V.ref t7, V.ref t8, V.ref t9, V.ref t10] d = some (.ref t) ∧ F12 t = some (.tup [.int c.1, .int c.2]) ∧ Nt c.1 ∧ Nt c.2 := fun d h0 h7 => by
      have : d = 0 ∨ d = 1 ∨ d = 2 ∨ d = 3 ∨ d = 4 ∨ d = 5 ∨ d = 6 ∨ d = 7 ∨ d = 8 ∨ d = 9 ∨ d = 10 := by omega
      have s0 := small 0 (by decide)
      have s1 := small 1 (by decide)
      have s2 := small 2 (by decide)
      have sv := small wide (by omega)
      have sw := small (wide + 1) (by omega)
      rcases this with e | e | e | e | e | e | e | e | e | e | e <;> subst e
      · exact ⟨t0, (0, 1), rfl, k0, s0, s1⟩
      · exact ⟨t1, (0, (wide : Int)), rfl, k1, s0, sv⟩
      · exact ⟨t2, (2, 1), rfl, k2, s2, s1⟩
      · exact ⟨t3, ((wide : Int) + 1, (wide : Int)), rfl, k3, sw, sv⟩
      · exact ⟨t4, (1, (wide : Int) + 1), rfl, k4, s1, sw⟩
      · exact ⟨t5, ((wide : Int) + 1, (wide : Int) + 1), rfl, k5, sw, sw⟩
      · exact ⟨t6, (0 - (1 + e), 1), rfl, k6, neg hNe, s1⟩
      · exact ⟨t7, (1, (wide : Int) + (1 + e)), rfl, k7, s1, hNw⟩
      · exact ⟨t8, (1, 0), rfl, k8, s1, s0⟩
      · exact ⟨t9, (0, 0), rfl, k9, s0, s0⟩
      · exact ⟨t10, (1, 0 - (1 + e)), rfl, k10, s1, neg hNe⟩
    clear k0 k1 k2 k3 k4 k5 k6 k7 k8 k9 k10 z7 z8 z9 z10 z11 z12 n7 n8 n9 n10 n11 n12 u11 u12 f7 f12 ha hb hp5 hW5 hR5 sy5
    fail "ww"
    have hul := hWG.len
    refine ⟨r, _, _, rfl, hRG, by omega, by omega, by rw [List.length_map]; omega, fun H6 d h0 h1 s6 hR6 => ?_⟩
    rw [List.length_map] at h1
    fail "ww"
    refine ⟨r, 11, _, rfl, hR6, by omega, by decide, by decide, fun H7 d7 h70 h71 s7 hR7 => ?_⟩
    obtain ⟨t, c, eat, ht, b1, b2⟩ := tup d7 h70 h71
    have s67 := s6.trans s7
    have hp7 := s67 _ _ hpr hpG
    have hW7 := hWG.sx hRG s67
    have ht7 : H7 t = some (.tup [.int c.1, .int c.2]) := ((Cw.one (c := c) ht).sx hRG s67).at_ 0 t rfl |>.elim fun c' e => by cases e.1; exact e.2
    refine r_ixL (sq (s67 _ _ hlc hc)) eat ?_
    fail "ww"
    obtain ⟨j, rfl⟩ := Int.eq_ofNat_of_zero_le h0
    refine ⟨p, _, (j : Int), _, rfl, rfl, hp7, by rw [List.length_map]; exact size_lt (by omega), h0, by omega, ?_⟩
    rw [Int.toNat_natCast, ← List.map_take, ← List.map_drop, show [V.ref t] = [t].map V.ref from rfl, ← List.map_append, ← List.map_append]
    refine ⟨_, _, _, _, ws.take j ++ [c] ++ ws.drop j, rfl, (syG.trans s67).old np, (hR7.other hpr).le (by omega), upd_same, (((hW7.take j).app (Cw.one ht7)).app (hW7.drop j)).put hp7, ?_, fun e he => ?_⟩
    · rw [List.length_append, List.length_append, List.length_take, List.length_drop]; simp only [List.length_singleton]; omega
    · rcases List.mem_append.mp he with q | q
      · rcases List.mem_append.mp q with q | q
        · exact hbd e (List.mem_of_mem_take q)
        · rw [List.mem_singleton.mp q]; exact ⟨b1, b2⟩
      · exact hbd e (List.mem_of_mem_drop q)
  · obtain ⟨y4, y5, y6, us, ws, rfl, sy, hR4, hp4, hW4, hwl, hbd⟩ := p'
    fail "ww"
    intro D nD
    refine lc_same (walk_enum (xs := us.map V.ref)) (fun i => ((List.range i).filter (wrW wide ws)).map fun (j : Nat) => V.int (j : Int)) nD (Same.refl _) rfl (fun H s => sq (s _ _ hp4)) (fun i x Hh Hh' hi pp y => ?_) (fun H1 s1 hD => ?_)
    · obtain ⟨T1, x1, y1, rfl, nT, rfl, e1, e2⟩ := y
      cases e1
      have hi' : i < ws.length := by rw [← hW4.len]; simpa using hi
      obtain ⟨t0, et, ht⟩ := hW4.idx hi'
      simp only [List.getElem?_map, et] at e2
      cases e2
      have s1 := same_new (o := .tup [.int (i : Nat), .ref t0]) nT
      have ht1 := s1 _ _ (pp.1 _ _ ht)
      have hw := wrW_at (n := wide) (ws := ws) (i := i) (List.getElem?_eq_getElem hi')
      rw [List.range_succ, List.filter_append, List.map_append]
      generalize ws[i] = c at *
      have len : ((List.range i).filter (wrW wide ws)).length ≤ 100000 := Nat.le_trans (List.length_filter_le _ _) (by rw [List.length_range]; omega)
      have skip : FitW wide c → Same H' (upd Hh T1 (.tup [.int (i : Nat), .ref t0])) ∧ (upd Hh T1 (.tup [.int (i : Nat), .ref t0])) D = some (.lst ((((List.range i).filter (wrW wide ws)).map fun (j : Nat) => V.int (j : Int)) ++ ((([i] : List Nat).filter (wrW wide ws)).map fun (j : Nat) => V.int (j : Int)))) := fun g => by
        rw [List.filter_cons_of_neg (by rw [hw, decide_eq_true g]; decide), List.filter_nil, List.map_nil, List.append_nil]
        exact ⟨pp.1.trans s1, s1 _ _ pp.2⟩
      have take_ : ¬ FitW wide c → ∃ l, (upd Hh T1 (.tup [.int (i : Nat), .ref t0])) D = some (.lst l) ∧ l.length < sizeLine ∧ Same H' (upd (upd Hh T1 (.tup [.int (i : Nat), .ref t0])) D (.lst (l ++ [.int (i : Nat)]))) ∧
          (upd (upd Hh T1 (.tup [.int (i : Nat), .ref t0])) D (.lst (l ++ [.int (i : Nat)]))) D = some (.lst ((((List.range i).filter (wrW wide ws)).map fun (j : Nat) => V.int (j : Int)) ++ ((([i] : List Nat).filter (wrW wide ws)).map fun (j : Nat) => V.int (j : Int)))) := fun g => by
        rw [List.filter_cons_of_pos (by rw [hw, decide_eq_false g]; decide)]
        exact lc_add pp s1 nD rfl (by rw [List.length_map]; exact size_lt (by omega))
      unfold FitW at skip take_
      fail "ww"
      refine ⟨rfl, ?_⟩
      fail "ww"
      refine r_dec (fun g => ?_) (fun g => ?_)
      · fail "ww"
        exact take_ (fun z => by omega)
      · fail "ww"
        refine r_dec (fun g2 => ?_) (fun g2 => ?_)
        · fail "ww"
          exact take_ (fun z => by omega)
        · fail "ww"
          by_cases g3 : (wide : Int) < c.2
          · rw [decide_eq_true g3]
            fail "ww"
            exact take_ (fun z => by omega)
          · rw [decide_eq_false g3]
            fail "ww"
            exact skip ⟨by omega, by omega, by omega⟩
    · rw [List.length_map, hW4.len] at hD
      have e : ((List.range ws.length).filter (wrW wide ws)).map (fun (j : Nat) => V.int (j : Int)) = (((List.range ws.length).filter (wrW wide ws)).map fun (j : Nat) => (j : Int)).map V.int := by rw [List.map_map]; rfl
      rw [e] at hD
      have hp5 := s1 _ _ hp4
      have hW5 := hW4.same s1
      have hR5 := hR4.same s1
      have sy5 := sy.same s1
      clear hp4 hW4 hR4 sy s1
      fail "ww"
      refine new_ fun l0 H2 n2 s2 h2 => ?_
      refine r_neL (ms := []) (sq (s2 _ _ hD)) (sq h2) ?_
      have hD2 := s2 _ _ hD
      have fin : ∀ v, v = vIx (eW wide ws) → ∀ (q : Addr) (H3 : Hp), H2 q = none → Same H2 H3 → H3 q = some (.lst [.ref p, v]) → Q (.ref q) H3 := fun v ev q H3 nq s3 hq => by
        subst ev
        have s23 := s2.trans s3
        have sxx := sy5.same s23
        have hp6 := s23 _ _ hp5
        have nqH : H q = none := by
          have n1 := s2.free nq
          obtain ⟨x1, x2, x3, hx, _⟩ := hR5
          exact sy5.free hx n1
        exact k _ q p us ws sxx nqH np ((hR5.same s23).le (by omega)) (ne_of_none (s2 _ _ hp5) nq) hq hp6 (hW5.same s23) (by omega) hbd
      rcases first_cases (wrW wide ws) ws.length with ⟨i, e, _⟩ | ⟨e, hno⟩
      · have e0 : eW wide ws = some i := e
        unfold firstN at e
        obtain ⟨rr, er⟩ : ∃ r, (List.range ws.length).filter (wrW wide ws) = i :: r := by
          cases g : (List.range ws.length).filter (wrW wide ws) with
          | nil => rw [g] at e; cases e
          | cons x r => rw [g] at e; cases e; exact ⟨r, rfl⟩
        rw [er] at hD2 ⊢
        rw [decide_eq_false (by simp)]
        fail "ww"
        refine r_ixL (sq hD2) (at_of (j := 0) rfl rfl) ?_
        fail "ww"
        refine new_ fun l1 H3 n3 s3 h3 => ?_
        exact fin _ (by rw [e0]; rfl) l1 H3 n3 s3 h3
      · have e0 : eW wide ws = none := e
        have er : (List.range ws.length).filter (wrW wide ws) = [] := List.filter_eq_nil_iff.mpr fun j hj => by rw [hno j (List.mem_range.mp hj)]; decide
        rw [er]
        rw [decide_eq_true (by rfl)]
        fail "ww"
        refine new_ fun l1 H3 n3 s3 h3 => ?_
        exact fin _ (by rw [e0]; rfl) l1 H3 n3 s3 h3
def sp_law_bad_row (K : PySem.W.Frag) : Sp := fun vs H Q _ => ∃ (r b : Addr) (m : Nat) (ns : List Int), vs = [.ref r, .ref b] ∧ Rng H r m ∧ m < 2 ^ 40 ∧ H b = some (.lst (ns.map V.int)) ∧ 1 ≤ ns.length ∧ ns.length ≤ 1000 ∧ (∀ x ∈ ns, Nt x) ∧
  ∀ (H' : Hp) (p f : Addr) (ms : List Int), Sx r H H' → H p = none → H f = none → Rng H' r (m + 20) → f ≠ p → H' p = some (.lst [.ref f, vIx (eR ms)]) → H' f = some (.lst (ms.map V.int)) → ms.length = ns.length → (∀ x ∈ ms, Nt x) → Q (.ref p) H'
theorem ok_law_bad_row (T : Txt K mg) : FnG P w K mg base CX0 2 T.law_bad_row_a T.law_bad_row_d ["rng", "line"] (sp_law_bad_row K) := by
  refine okG T.law_bad_row_F sc_law_bad_row (fun vs H Q E h => ?_) (fun cdv A ou t H vs Q E hG hr h => ?_)
  · obtain ⟨_, _, _, _, rfl, _⟩ := h; rfl
  have nd := sc_law_bad_row.nd
  obtain ⟨r, b, m, ns, rfl, hR, hm, hB, hn1, hnl, hbd0, k⟩ := h
  refine ⟨_, (pss_cons (sset 2 nd (pe_callTy (listK K) (by rfl) T.m_list (by decide +kernel) (pa_cons (pv 1) pa_nil)))
      (pss_cons (ps_for PassesOwn.never rfl (pi_range1 (by rfl) T.m_range (pa_cons (pe_ix (ix_listK K) (pe_lst (pa_cons pe_int (pa_cons pe_int (pa_cons pe_int (pa_cons pe_int pa_nil))))) (pe_callG (ok_law_draw T) hG (hr.mono (by decide)) (by rfl) T.law_draw_g T.law_draw_F.kp T.law_draw_b .nil pass0 (pa_cons (pv 0) (pa_cons pe_int pa_nil))) (fun _ _ => rfl)) pa_nil)) (gset 3 nd)
        (pss_cons (ps_par (i := 4) (j := 5) (by rfl) nd rfl rfl (by decide) rfl rfl (pa_cons (pe_callG (ok_law_draw T) hG (hr.mono (by decide)) (by rfl) T.law_draw_g T.law_draw_F.kp T.law_draw_b .nil pass0 (pa_cons (pv 0) (pa_cons (pe_callB (lenK K) (by rfl) T.m_len PySem.boot_len (pa_cons (pv 2) pa_nil)) pa_nil))) (pa_cons (pe_op op_add pe_int (pe_callG (ok_law_draw T) hG (hr.mono (by decide)) (by rfl) T.law_draw_g T.law_draw_F.kp T.law_draw_b .nil pass0 (pa_cons (pv 0) (pa_cons (pe_op op_powW pe_int pe_int) pa_nil)))) pa_nil)) (by rfl))
      (pss_cons (sset 6 nd (pe_ix (ix_listK K) (pe_lst (pa_cons pe_int (pa_cons (pe_un un_neg pe_int) (pa_cons (pe_op op_add (pe_callB (lenK K) (by rfl) T.m_len PySem.boot_len (pa_cons (pv 2) pa_nil)) pe_int) (pa_cons (pe_op op_sub pe_int (pv 5)) (pa_cons (pe_op op_add (pe_callB (lenK K) (by rfl) T.m_len PySem.boot_len (pa_cons (pv 2) pa_nil)) (pv 5)) (pa_cons (pe_ix (ix_listK K) (pv 2) (pe_callG (ok_law_draw T) hG (hr.mono (by decide)) (by rfl) T.law_draw_g T.law_draw_F.kp T.law_draw_b .nil pass0 (pa_cons (pv 0) (pa_cons (pe_callB (lenK K) (by rfl) T.m_len PySem.boot_len (pa_cons (pv 2) pa_nil)) pa_nil))) (fun _ _ => rfl)) pa_nil))))))) (pe_callG (ok_law_draw T) hG (hr.mono (by decide)) (by rfl) T.law_draw_g T.law_draw_F.kp T.law_draw_b .nil pass0 (pa_cons (pv 0) (pa_cons pe_int pa_nil))) (fun _ _ => rfl)))
      (pss_one (ps_asg (pv 6) (pg_sub (pv 2) (pv 4) set_list))))))
      (pss_cons (ps_par (i := 7) (j := 8) (by rfl) nd rfl rfl (by decide) rfl rfl (pa_cons (pe_lst pa_nil) (pa_cons pe_non pa_nil)) (by rfl))
      (pss_cons (ps_for PassesOwn.never rfl (pi_enumK K (by rfl) T.m_enumerate (pa_cons (pv 2) pa_nil)) (pg_tupK K 2 rfl (pgs_cons (gset 4 nd) (pgs_cons (gset 6 nd) pgs_nil)))
        (pss_cons (ps_if (PW.pt (pw_and (pt_cmpR op_isN (pv 8) pe_non (nomark _)) (pw_and1 (PW.pt (pw_or (pt_cmpR op_lt (pv 6) pe_int (nomark _)) (pw_or (pt_cmpR op_gt (pv 6) (pe_callB (lenK K) (by rfl) T.m_len PySem.boot_len (pa_cons (pv 2) pa_nil)) (nomark _)) (pw_or1 (pt_cmpR (inK K) (pv 6) (pv 7) (by rfl)))))))))
        (pss_one (sset 8 nd (pv 4)))
        pss_nil)
      (pss_one (ps_expr (pe_bmK K PySem.F.plainAttrs_list PySem.F.slot_list_append PySem.F.type_list_append mt_append (pv 7) (pa_cons (pv 6) pa_nil))))))
      (pss_one (ps_ret (pe_lst (pa_cons (pv 2) (pa_cons (pv 8) pa_nil))))))))), ?_⟩
  have small : ∀ z : Nat, z ≤ 10000 → Nt (z : Int) := fun z hz => by unfold Nt; rw [Int.natAbs_natCast]; exact Nat.le_trans hz (by decide)
  fail "ww"
  refine new_ fun p H1 np s1 hp => ?_
  fail "ww"
  refine new_ fun lx H2 nx s2 hx => ?_
  fail "ww"
  have hR2 := (hR.same s1).same s2
  have hxr := (hR.same s1).ne nx
  have hpr := hR.ne np
  have hp2 := s2 _ _ hp
  have s12 := s1.trans s2
  refine ⟨r, 4, _, rfl, hR2, by omega, by decide, by decide, fun H3 d hd0 hd1 s3 hR3 => ?_⟩
  obtain ⟨n, hat, hn⟩ : ∃ n : Nat, atI [V.int 0, V.int 0, V.int 1, V.int 2] d = some (.int (n : Int)) ∧ n ≤ 2 := by
    have : d = 0 ∨ d = 1 ∨ d = 2 ∨ d = 3 := by omega
    rcases this with e | e | e | e <;> subst e
    · exact ⟨0, rfl, by decide⟩
    · exact ⟨0, rfl, by decide⟩
    · exact ⟨1, rfl, by decide⟩
    · exact ⟨2, rfl, by decide⟩
  refine r_ixL (sq (s3 _ _ hxr hx)) hat ?_
  fail "ww"
  refine ⟨by omega, by omega, ?_⟩
  have hp3 := s3 _ _ hpr hp2
  have sy3 : Sx r H H3 := (Sx.refl.same s12).trans s3
  clear hx s3 hat s12 hR2 hxr nx s2 s1 hp2
  refine forF walk_range (fun i σ' H' => ∃ (y3 y4 y5 y6 : Option V) (ms : List Int), σ' = [some (.ref r), some (.ref b), some (.ref p), y3, y4, y5, y6, none, none] ∧ Sx r H H' ∧ Rng H' r (m + 1 + 5 * i) ∧ H' p = some (.lst (ms.map V.int)) ∧ ms.length = ns.length ∧ ∀ x ∈ ms, Nt x)
    ⟨none, none, none, none, ns, rfl, sy3, hR3, hp3, rfl, hbd0⟩ (fun _ _ _ _ _ => trivial) (fun i σ' H' hi p' => ?_) (fun σ' H' p' => ?_)
  · clear hp3 sy3 hR3 hbd0
    obtain ⟨y3, y4, y5, y6, ms, rfl, sy, hR4, hp4, hml, hbd⟩ := p'
    have hi2 : i < 2 := by omega
    fail "ww"
    refine ⟨r, _, _, rfl, hR4, by omega, by rw [List.length_map]; omega, by rw [List.length_map]; omega, fun H5 d hd0 hd1 s5 hR5 => ?_⟩
    rw [List.length_map] at hd1
    have hp5 := s5 _ _ hpr hp4
    fail "ww"
    refine ⟨r, _, _, rfl, hR5, by omega, by decide, by decide, fun H6 e he0 he1 s6 hR6 => ?_⟩
    have hp6 := s6 _ _ hpr hp5
    have sy6 := sy.trans (s5.trans s6)
    clear hp4 hp5 s5 s6 hR4 hR5 sy
    fail "ww"
    refine ⟨r, _, _, rfl, hR6, by omega, by rw [List.length_map]; omega, by rw [List.length_map]; omega, fun H7 q hq0 hq1 s7 hR7 => ?_⟩
    rw [List.length_map] at hq1
    obtain ⟨j, rfl⟩ := Int.eq_ofNat_of_zero_le hq0
    have hj : j < ms.length := by omega
    have hp7 := s7 _ _ hpr hp6
    have sy7 := sy6.trans s7
    clear hp6 s7 hR6 sy6
    refine r_ixL (sq hp7) (at_map rfl hj) ?_
    fail "ww"
    refine new_ fun l0 H8 n8 s8 h8 => ?_
    fail "ww"
    have hR8 := hR7.same s8
    have hlr := hR7.ne n8
    have hp8 := s8 _ _ hp7
    have sy8 := sy7.same s8
    clear hp7 hR7 sy7 s8 n8
    refine ⟨r, 6, _, rfl, hR8, by omega, by decide, by decide, fun H9 g hg0 hg1 s9 hR9 => ?_⟩
    have hNe : ∀ z : Int, z.natAbs ≤ 100000000000000000000000001001 → Nt z := fun z hz => Nat.le_trans hz (by decide)
    have he2 : e < 100000000000000000000000000000 := he1
    obtain ⟨v, hat, hv⟩ : ∃ v : Int, atI [V.int 0, V.int (-1), V.int (((ms.map V.int).length : Nat) + 1 : Int), V.int (0 - (1 + e)), V.int (((ms.map V.int).length : Nat) + (1 + e) : Int), V.int ms[j]] g = some (.int v) ∧ Nt v := by
      have : g = 0 ∨ g = 1 ∨ g = 2 ∨ g = 3 ∨ g = 4 ∨ g = 5 := by omega
      rcases this with z | z | z | z | z | z <;> subst z
      · exact ⟨_, rfl, small 0 (by decide)⟩
      · exact ⟨_, rfl, hNe _ (by decide)⟩
      · exact ⟨_, rfl, hNe _ (by rw [List.length_map]; omega)⟩
      · exact ⟨_, rfl, hNe _ (by omega)⟩
      · exact ⟨_, rfl, hNe _ (by rw [List.length_map]; omega)⟩
      · exact ⟨_, rfl, hbd _ (List.getElem_mem hj)⟩
    refine r_ixL (sq (s9 _ _ hlr h8)) hat ?_
    have hp9 := s9 _ _ hpr hp8
    have sy9 := sy8.trans s9
    clear hat h8 hp8 sy8 s9 hR8 hlr
    fail "ww"
    obtain ⟨dn, rfl⟩ := Int.eq_ofNat_of_zero_le hd0
    refine r_setL hp9 (ix_of rfl (by rw [List.length_map]; omega)) ?_
    rw [map_set']
    refine ⟨_, _, _, _, ms.set dn v, rfl, sy9.old np, (hR9.other hpr).le (by omega), upd_same, by rw [List.length_set]; exact hml, fun x hx => ?_⟩
    rcases List.mem_or_eq_of_mem_set hx with z | z
    · exact hbd x z
    · rw [z]; exact hv
  · obtain ⟨y3, y4, y5, y6, ms, rfl, sy, hR4, hp4, hml, hbd⟩ := p'
    fail "ww"
    refine new_ fun qs H5 n5 s5 h5 => ?_
    have hp5 := s5 _ _ hp4
    have hR5 := hR4.same s5
    have sy5 := sy.same s5
    have hqp : qs ≠ p := (ne_of_none hp4 n5).symm
    have hqH : H qs = none := by
      obtain ⟨x1, x2, x3, hx, _⟩ := hR4
      exact sy.free hx n5
    clear hp4 hR4 sy s5 n5 hp3 sy3 hR3 hbd0
    fail "ww"
    refine forEI (ns := ms) walk_enum (fun i σ' H' => ∃ (y3 y4 y5 y6 : Option V), σ' = [some (.ref r), some (.ref b), some (.ref p), y3, y4, y5, y6, some (.ref qs), some (vIx (fb ms i))] ∧ Sx r H H' ∧ Rng H' r (m + 11) ∧ H' p = some (.lst (ms.map V.int)) ∧ H' qs = some (.lst ((ms.take i).map V.int)))
      ⟨_, _, _, _, rfl, sy5, hR5.le (by omega), hp5, h5⟩ (fun i σ' H' _ pv => ?_) (fun i σ' H' T hi pv nT => ?_) (fun σ' H' pv => ?_)
    · obtain ⟨_, _, _, _, _, _, _, h, _⟩ := pv; exact sq h
    · obtain ⟨z3, z4, z5, z6, rfl, sy6, hR6, hp6, hq6⟩ := pv
      have s1 := same_new (o := .tup [.int (i : Nat), .int ms[i]]) nT
      have hp7 := s1 _ _ hp6
      have hq7 := s1 _ _ hq6
      have hR7 := hR6.same s1
      have sy7 := sy6.same s1
      clear hp6 hq6 hR6 sy6 hp5 hR5 sy5 h5
      have ht : upd H' T (.tup [.int (i : Nat), .int ms[i]]) T = some (.tup [.int (i : Nat), .int ms[i]]) := upd_same
      generalize upd H' T (.tup [.int (i : Nat), .int ms[i]]) = H7 at *
      have hw := wrR_at hi
      fail "ww"
      refine ⟨rfl, ?_⟩
      fail "ww"
      have last : ∀ o : Option Nat, fb ms (i + 1) = o → ∃ (y3 y4 y5 y6 : Option V), ([some (V.ref r), some (V.ref b), some (V.ref p), z3, some (V.int (i : Nat)), z5, some (V.int ms[i]), some (V.ref qs), some (vIx o)] : L2.St) = [some (.ref r), some (.ref b), some (.ref p), y3, y4, y5, y6, some (.ref qs), some (vIx (fb ms (i + 1)))] ∧ Sx r H (upd H7 qs (.lst ((ms.take i).map V.int ++ [.int ms[i]]))) ∧ Rng (upd H7 qs (.lst ((ms.take i).map V.int ++ [.int ms[i]]))) r (m + 11) ∧ (upd H7 qs (.lst ((ms.take i).map V.int ++ [.int ms[i]]))) p = some (.lst (ms.map V.int)) ∧ (upd H7 qs (.lst ((ms.take i).map V.int ++ [.int ms[i]]))) qs = some (.lst ((ms.take (i + 1)).map V.int)) := fun o eo => by
        subst eo
        refine ⟨_, _, _, _, rfl, sy7.old hqH, hR7.other ?_, upd_to hqp.symm hp7, ?_⟩
        · obtain ⟨x1, x2, x3, hx, _⟩ := hR
          exact (ne_of_none hx hqH).symm
        · rw [upd_same, take_one hi, List.map_append]; rfl
      have hsz : ((ms.take i).map V.int).length < sizeLine := by rw [List.length_map, List.length_take]; exact size_lt (by omega)
      obtain ⟨o, hf⟩ : ∃ o, fb ms i = o := ⟨_, rfl⟩
      rw [hf]
      cases o with
      | some j =>
        rw [decide_eq_false (show ¬ vIx (some j) = V.non from fun z => by cases z)]
        fail "ww"
        exact last (some j) (fb_old hf)
      | none =>
        rw [decide_eq_true (show vIx none = V.non from rfl)]
        fail "ww"
        have yes : wrR ms i = true → fb ms (i + 1) = some i := fb_new hf
        have no : wrR ms i = false → fb ms (i + 1) = none := fb_no hf
        rw [hw] at yes no
        refine r_dec (fun g => ?_) (fun g => ?_)
        · fail "ww"
          exact last (some i) (yes (by rw [decide_eq_false (by omega)]; rfl))
        fail "ww"
        refine r_dec (fun g2 => ?_) (fun g2 => ?_)
        · rw [List.length_map] at g2
          fail "ww"
          exact last (some i) (yes (by rw [decide_eq_false (by omega)]; rfl))
        rw [List.length_map] at g2
        fail "ww"
        refine ⟨qs, _, rfl, .inl (sq hq7), rfl, List.all_eq_true.mpr fun x hx => (by obtain ⟨y, _, rfl⟩ := List.mem_map.mp hx; rfl), ?_⟩
        rw [if_neg Bool.false_ne_true, inv_ints]
        fail "ww"
        refine r_dec (fun g3 => ?_) (fun g3 => ?_)
        · fail "ww"
          exact last (some i) (yes (by rw [decide_eq_false (fun z => z.2.2 g3)]; rfl))
        · fail "ww"
          exact last none (no (by rw [decide_eq_true ⟨by omega, by omega, g3⟩]; rfl))
    · obtain ⟨z3, z4, z5, z6, rfl, sy6, hR6, hp6, hq6⟩ := pv
      fail "ww"
      rw [List.length_map, fb_eR]
      refine new_ fun l H6 n6 s6 h6 => ?_
      have hlH : H l = none := by
        obtain ⟨x1, x2, x3, hx, _⟩ := hR6
        exact sy6.free hx n6
      exact k _ l p ms (sy6.same s6) hlH np ((hR6.same s6).le (by omega)) (ne_of_none hp6 n6) h6 (s6 _ _ hp6) hml hbd
def sp_check_size (K : PySem.W.Frag) : Sp := fun vs H Q _ => ∃ (n : Nat), vs = [.int n] ∧ 1 ≤ n ∧ Q .non H
theorem ok_check_size (T : Txt K mg) : FnG P w K mg base CX0 3 T.check_size_a T.check_size_d ["size"] (sp_check_size K) := by
  refine okG T.check_size_F sc_check_size (fun vs H Q E h => ?_) (fun cdv A ou t H vs Q E hG hr h => ?_)
  · obtain ⟨_, rfl, _⟩ := h; rfl
  have nd := sc_check_size.nd
  obtain ⟨n, rfl, hn, q⟩ := h
  refine ⟨_, (pss_one (ps_if (pt_cmpR op_lt (pv 0) pe_int (nomark _))
        (pss_one ps_never)
        pss_nil)), ?_⟩
  fail "g"
  refine r_itDF (by omega) ?_
  fail "g"
  exact q
def spx_check_size (K : PySem.W.Frag) (T : Txt K mg) : Sp := fun vs H Q E => ∃ (n : Int), vs = [.int n] ∧ n < 1 ∧ Err H E T.InvalidSize_a (.int n)
theorem okx_check_size (T : Txt K mg) : FnG P w K mg base (L2N.CX P w) 3 T.check_size_a T.check_size_d ["size"] (spx_check_size K T) := by
  refine okX T.check_size_F sc_check_size (fun vs H Q E h => ?_) (fun cdv A ou t H vs Q E hG hr h => ?_)
  · obtain ⟨_, rfl, _⟩ := h; rfl
  have nd := sc_check_size.nd
  obtain ⟨n, rfl, hn, q⟩ := h
  refine ⟨_, (pss_one (ps_if (pt_cmpR op_lt (pv 0) pe_int (nomark _))
        (pss_one (ps_raiseV rfl (L2N.takes_of rfl rfl rfl rfl) T.InvalidSize_E (ini_InvalidSize T) (hr.mono (by decide)) T.InvalidSize_i_b (by rfl) (pa_cons (pv 0) pa_nil)))
        pss_nil)), ?_⟩
  fail "ww"
  refine r_itD hn ?_
  fail "ww"
  exact fun d hd => q _ d (Same.refl _) hd
def sp_check_script (K : PySem.W.Frag) : Sp := fun vs H Q _ => ∃ (n : Nat) (b : Addr) (ts : List Addr) (cs : List Cmd), vs = [.int n, .ref b] ∧ SqL K H b (ts.map V.ref) ∧ Cm H ts cs ∧ Fits n cs ∧ ∀ H', Same H H' → Q .non H'
theorem ok_check_script (T : Txt K mg) : FnG P w K mg base CX0 3 T.check_script_a T.check_script_d ["size", "commands"] (sp_check_script K) := by
  refine okG T.check_script_F sc_check_script (fun vs H Q E h => ?_) (fun cdv A ou t H vs Q E hG hr h => ?_)
  · obtain ⟨_, _, _, _, rfl, _⟩ := h; rfl
  have nd := sc_check_script.nd
  obtain ⟨n, b, ts, cs, rfl, hS, hC, hF, q⟩ := h
  refine ⟨_, (pss_one (ps_for PassesOwn.never rfl (pi_enumK K (by rfl) T.m_enumerate (pa_cons (pv 1) pa_nil)) (pg_tupK K 2 rfl (pgs_cons (gset 2 nd) (pgs_cons (pg_tupK K 2 rfl (pgs_cons (gset 3 nd) (pgs_cons (gset 4 nd) pgs_nil))) pgs_nil)))
        (pss_one (ps_if (PW.pt (pw_or (pt_cmpR op_lt (pv 3) pe_int (nomark _)) (pw_or (pt_cmpR op_lt (pv 4) (pv 3) (nomark _)) (pw_or1 (pt_cmpR op_gt (pv 4) (pv 0) (nomark _))))))
        (pss_one ps_never)
        pss_nil)))), ?_⟩
  fail "g"
  refine forP (walk_enum (xs := ts.map V.ref)) (fun i σ' H' => ∃ y2 y3 y4, σ' = [some (.int n), some (.ref b), y2, y3, y4] ∧ Same H H') ⟨none, none, none, rfl, Same.refl H⟩ (fun i σ' H' _ p => ?_) (fun i σ' H' T1 x y hi p e1 e2 nT => ?_) (fun σ' H' p => ?_)
  · obtain ⟨_, _, _, _, s⟩ := p; exact s.seq hS
  · obtain ⟨y2, y3, y4, rfl, s⟩ := p
    cases e1
    have hi' : i < cs.length := by rw [← hC.len]; simpa using hi
    obtain ⟨t0, et, ht⟩ := hC.idx hi'
    simp only [List.getElem?_map, et] at e2
    cases e2
    have hc := hF cs[i] (List.getElem_mem hi')
    have s1 := s.trans (same_new (o := .tup [.int (i : Nat), .ref t0]) nT)
    have ht1 := s1 _ _ ht
    fail "g"
    refine r_itDF (by omega) ?_
    fail "g"
    refine r_itDF (by omega) ?_
    fail "g"
    refine r_itDF (by omega) ?_
    fail "g"
    exact ⟨_, _, _, rfl, s1⟩
  · obtain ⟨y2, y3, y4, rfl, s⟩ := p
    fail "g"
    exact q _ s
def spx_check_script (K : PySem.W.Frag) (T : Txt K mg) : Sp := fun vs H Q E => ∃ (n : Int) (b : Addr) (ts : List Addr) (ws : List Pr) (i : Nat), vs = [.int n, .ref b] ∧ SqL K H b (ts.map V.ref) ∧ Cw H ts ws ∧ eW n ws = some i ∧ Err H E T.InvalidCommand_a (.int i)
theorem okx_check_script (T : Txt K mg) : FnG P w K mg base (L2N.CX P w) 3 T.check_script_a T.check_script_d ["size", "commands"] (spx_check_script K T) := by
  refine okX T.check_script_F sc_check_script (fun vs H Q E h => ?_) (fun cdv A ou t H vs Q E hG hr h => ?_)
  · obtain ⟨_, _, _, _, _, rfl, _⟩ := h; rfl
  have nd := sc_check_script.nd
  obtain ⟨n, b, ts, ws, i0, rfl, hS, hC, hI, q⟩ := h
  refine ⟨_, (pss_one (ps_for (passes_of rfl) rfl (pi_enumK K (by rfl) T.m_enumerate (pa_cons (pv 1) pa_nil)) (pg_tupK K 2 rfl (pgs_cons (gset 2 nd) (pgs_cons (pg_tupK K 2 rfl (pgs_cons (gset 3 nd) (pgs_cons (gset 4 nd) pgs_nil))) pgs_nil)))
        (pss_one (ps_if (PW.pt (pw_or (pt_cmpR op_lt (pv 3) pe_int (nomark _)) (pw_or (pt_cmpR op_lt (pv 4) (pv 3) (nomark _)) (pw_or1 (pt_cmpR op_gt (pv 4) (pv 0) (nomark _))))))
        (pss_one (ps_raiseV rfl (L2N.takes_of rfl rfl rfl rfl) T.InvalidCommand_E (ini_InvalidCommand T) (hr.mono (by decide)) T.InvalidCommand_i_b (by rfl) (pa_cons (pv 2) pa_nil)))
        pss_nil)))), ?_⟩
  obtain ⟨hi0, hb, hl⟩ := first_at hI
  fail "ww"
  refine forP (walk_enum (xs := ts.map V.ref)) (fun i σ' H' => ∃ y2 y3 y4, σ' = [some (.int n), some (.ref b), y2, y3, y4] ∧ Same H H' ∧ i ≤ i0) ⟨none, none, none, rfl, Same.refl H, Nat.zero_le _⟩ (fun i σ' H' _ p => ?_) (fun i σ' H' T1 x y hi p e1 e2 nT => ?_) (fun σ' H' p => ?_)
  · obtain ⟨_, _, _, _, s, _⟩ := p; exact s.seq hS
  · obtain ⟨y2, y3, y4, rfl, s, hle⟩ := p
    cases e1
    have hi' : i < ws.length := by rw [← hC.len]; simpa using hi
    obtain ⟨t0, et, ht⟩ := hC.idx hi'
    simp only [List.getElem?_map, et] at e2
    cases e2
    have s1 := s.trans (same_new (o := .tup [.int (i : Nat), .ref t0]) nT)
    have ht1 := s1 _ _ ht
    have hw := wrW_at (n := n) (ws := ws) (i := i) (List.getElem?_eq_getElem hi')
    have bad : ¬ FitW n ws[i] → i = i0 := fun g => by
      rcases Nat.lt_or_eq_of_le hle with z | z
      · have := hl i z
        rw [hw, decide_eq_false g] at this
        cases this
      · exact z
    have good : FitW n ws[i] → i + 1 ≤ i0 := fun g => by
      rcases Nat.lt_or_eq_of_le hle with z | z
      · exact z
      · rw [← z, hw, decide_eq_true g] at hb
        cases hb
    unfold FitW at bad good
    fail "ww"
    refine r_dec (fun g => ?_) (fun g => ?_)
    · fail "ww"
      rw [bad (by omega)] at *
      exact fun d hd => q _ d s1 hd
    fail "ww"
    refine r_dec (fun g2 => ?_) (fun g2 => ?_)
    · fail "ww"
      rw [bad (by omega)] at *
      exact fun d hd => q _ d s1 hd
    fail "ww"
    refine r_dec (fun g3 => ?_) (fun g3 => ?_)
    · fail "ww"
      rw [bad (by omega)] at *
      exact fun d hd => q _ d s1 hd
    fail "ww"
    exact ⟨_, _, _, rfl, s1, good (by omega)⟩
  · obtain ⟨y2, y3, y4, rfl, s, hle⟩ := p
    rw [List.length_map, hC.len] at hle
    omega
def sp_check_arrangement (K : PySem.W.Frag) : Sp := fun vs H Q _ => ∃ (a : Addr) (ns : List Int), vs = [.ref a] ∧ SqL K H a (ns.map V.int) ∧ IsArr ns ∧ ns.length ≤ 1000 ∧ ∀ H', Same H H' → Q .non H'
theorem ok_check_arrangement (T : Txt K mg) : FnG P w K mg base CX0 3 T.check_arrangement_a T.check_arrangement_d ["row"] (sp_check_arrangement K) := by
  refine okG T.check_arrangement_F sc_check_arrangement (fun vs H Q E h => ?_) (fun cdv A ou t H vs Q E hG hr h => ?_)
  · obtain ⟨_, _, rfl, _⟩ := h; rfl
  have nd := sc_check_arrangement.nd
  obtain ⟨a, ns, rfl, hS, hA, hlen, q⟩ := h
  refine ⟨_, (pss_cons (sset 1 nd (pe_callTy0 cr_set0 (by rfl) T.m_set (by decide +kernel)))
      (pss_one (ps_for PassesOwn.never rfl (pi_enumK K (by rfl) T.m_enumerate (pa_cons (pv 0) pa_nil)) (pg_tupK K 2 rfl (pgs_cons (gset 2 nd) (pgs_cons (gset 3 nd) pgs_nil)))
        (pss_cons (ps_if (PW.pt (pw_or (pt_cmpR op_lt (pv 3) pe_int (nomark _)) (pw_or (pt_cmpR op_gt (pv 3) (pe_callB (lenK K) (by rfl) T.m_len PySem.boot_len (pa_cons (pv 0) pa_nil)) (nomark _)) (pw_or1 (pt_cmpR or_sin (pv 3) (pv 1) (by rfl))))))
        (pss_one ps_never)
        pss_nil)
      (pss_one (ps_expr (pe_sadd (pv 1) (pa_cons (pv 3) pa_nil)))))))), ?_⟩
  fail "g"
  refine r_set0 fun p np => ?_
  have s1 := same_new (o := SetO w p (fun _ => false) 0) np
  have hS1 := s1.seq hS
  fail "g"
  refine ⟨a, _, rfl, hS1, ?_⟩
  refine forEI (walk_enum (xs := ns.map V.int)) (fun i σ' H' => ∃ (S : Int → Bool) (n : Nat) (y2 y3 : Option V), σ' = [some (.ref a), some (.ref p), y2, y3] ∧ Same H H' ∧ H' p = some (SetO w p S n) ∧ n ≤ i ∧ ∀ v, S v = true → v ∈ ns.take i)
    ⟨fun _ => false, 0, none, none, rfl, s1, upd_same, Nat.le_refl _, fun v hv => by cases hv⟩ (fun i σ' H' _ p => ?_) (fun i σ' H' T1 hi p' nT => ?_) (fun σ' H' p' => ?_)
  · obtain ⟨_, _, _, _, _, s, _⟩ := p; exact s.seq hS
  · obtain ⟨S, n, y2, y3, rfl, s, hP, hn, hin⟩ := p'
    have s2 := s.trans (same_new (o := .tup [.int (i : Nat), .int ns[i]]) nT)
    have hS2 := s2.seq hS
    have hP2 := upd_old (o := .tup [.int (i : Nat), .int ns[i]]) nT hP
    have hv := hA.2 ns[i] (List.getElem_mem hi)
    fail "g"
    refine r_itDF (by omega) ?_
    fail "g"
    refine r_itDF (by rw [List.length_map]; omega) ?_
    fail "g"
    refine r_sin hP2 ?_
    have hno : S ns[i] = false := by
      cases h : S ns[i] with
      | false => rfl
      | true =>
        have h1 := hin _ h
        have h2 := hA.1
        rw [← List.take_append_drop i ns, List.nodup_append] at h2
        rw [List.drop_eq_getElem_cons hi] at h2
        exact absurd rfl (h2.2.2 _ h1 _ List.mem_cons_self)
    rw [hno]
    fail "g"
    refine ⟨⟨p, S, n, rfl, hP2⟩, ?_⟩
    fail "g"
    refine r_sadd hP2 (by omega) ?_
    fail "g"
    refine ⟨_, _, _, _, rfl, same_old s2 np, upd_same, by split <;> omega, fun v hv => ?_⟩
    rw [take_one hi]
    rcases Bool.or_eq_true_iff.mp hv with h | h
    · exact List.mem_append_left _ (hin v h)
    · rw [of_decide_eq_true h]; exact List.mem_append_right _ List.mem_cons_self
  · obtain ⟨S, n, y2, y3, rfl, s, hP, hn, hin⟩ := p'
    fail "g"
    exact q _ s
def spx_check_arrangement (K : PySem.W.Frag) (T : Txt K mg) : Sp := fun vs H Q E => ∃ (a : Addr) (ns : List Int) (i : Nat), vs = [.ref a] ∧ SqL K H a (ns.map V.int) ∧ ns.length ≤ 1000 ∧ eR ns = some i ∧ Err H E T.InvalidRow_a (.int i)
theorem okx_check_arrangement (T : Txt K mg) : FnG P w K mg base (L2N.CX P w) 3 T.check_arrangement_a T.check_arrangement_d ["row"] (spx_check_arrangement K T) := by
  refine okX T.check_arrangement_F sc_check_arrangement (fun vs H Q E h => ?_) (fun cdv A ou t H vs Q E hG hr h => ?_)
  · obtain ⟨_, _, _, rfl, _⟩ := h; rfl
  have nd := sc_check_arrangement.nd
  obtain ⟨a, ns, i0, rfl, hS, hlen, hI, q⟩ := h
  refine ⟨_, (pss_cons (sset 1 nd (pe_callTy0 cr_set0 (by rfl) T.m_set (by decide +kernel)))
      (pss_one (ps_for (passes_of rfl) rfl (pi_enumK K (by rfl) T.m_enumerate (pa_cons (pv 0) pa_nil)) (pg_tupK K 2 rfl (pgs_cons (gset 2 nd) (pgs_cons (gset 3 nd) pgs_nil)))
        (pss_cons (ps_if (PW.pt (pw_or (pt_cmpR op_lt (pv 3) pe_int (nomark _)) (pw_or (pt_cmpR op_gt (pv 3) (pe_callB (lenK K) (by rfl) T.m_len PySem.boot_len (pa_cons (pv 0) pa_nil)) (nomark _)) (pw_or1 (pt_cmpR or_sin (pv 3) (pv 1) (by rfl))))))
        (pss_one (ps_raiseV rfl (L2N.takes_of rfl rfl rfl rfl) T.InvalidRow_E (ini_InvalidRow T) (hr.mono (by decide)) T.InvalidRow_i_b (by rfl) (pa_cons (pv 2) pa_nil)))
        pss_nil)
      (pss_one (ps_expr (pe_sadd (pv 1) (pa_cons (pv 3) pa_nil)))))))), ?_⟩
  obtain ⟨hi0, hb, hl⟩ := first_at hI
  fail "ww"
  refine r_set0 fun p np => ?_
  have s1 := same_new (o := SetO w p (fun _ => false) 0) np
  have hS1 := s1.seq hS
  fail "ww"
  refine forEI (walk_enum (xs := ns.map V.int)) (fun i σ' H' => ∃ (S : Int → Bool) (n : Nat) (y2 y3 : Option V), σ' = [some (.ref a), some (.ref p), y2, y3] ∧ Same H H' ∧ H' p = some (SetO w p S n) ∧ n ≤ i ∧ (∀ v, S v = decide (v ∈ ns.take i)) ∧ i ≤ i0)
    ⟨fun _ => false, 0, none, none, rfl, s1, upd_same, Nat.le_refl _, (fun v => by simp), Nat.zero_le _⟩ (fun i σ' H' _ p => ?_) (fun i σ' H' T1 hi p' nT => ?_) (fun σ' H' p' => ?_)
  · obtain ⟨_, _, _, _, _, s, _⟩ := p; exact s.seq hS
  · obtain ⟨S, n, y2, y3, rfl, s, hP, hn, hin, hle⟩ := p'
    have s2 := s.trans (same_new (o := .tup [.int (i : Nat), .int ns[i]]) nT)
    have hS2 := s2.seq hS
    have hP2 := upd_old (o := .tup [.int (i : Nat), .int ns[i]]) nT hP
    have hw := wrR_at hi
    have bad : ¬ (1 ≤ ns[i] ∧ ns[i] ≤ (ns.length : Int) ∧ ns[i] ∉ ns.take i) → i = i0 := fun g => by
      rcases Nat.lt_or_eq_of_le hle with z | z
      · have := hl i z
        rw [hw, decide_eq_false g] at this
        cases this
      · exact z
    have good : (1 ≤ ns[i] ∧ ns[i] ≤ (ns.length : Int) ∧ ns[i] ∉ ns.take i) → i + 1 ≤ i0 := fun g => by
      rcases Nat.lt_or_eq_of_le hle with z | z
      · exact z
      · rw [← z, hw, decide_eq_true g] at hb
        cases hb
    fail "ww"
    refine r_dec (fun g => ?_) (fun g => ?_)
    · fail "ww"
      have := bad (by omega)
      subst this
      exact fun d hd => q _ d s2 hd
    fail "ww"
    rw [List.length_map]
    refine r_dec (fun g2 => ?_) (fun g2 => ?_)
    · fail "ww"
      have := bad (by omega)
      subst this
      exact fun d hd => q _ d s2 hd
    fail "ww"
    refine r_sin hP2 ?_
    rw [hin]
    fail "ww"
    refine r_dec (fun g3 => ?_) (fun g3 => ?_)
    · fail "ww"
      have := bad (fun z => z.2.2 g3)
      subst this
      exact fun d hd => q _ d s2 hd
    fail "ww"
    refine ⟨⟨p, S, n, rfl, hP2⟩, ?_⟩
    fail "ww"
    refine r_sadd hP2 (by omega) ?_
    fail "ww"
    refine ⟨_, _, _, _, rfl, same_old s2 np, upd_same, by split <;> omega, fun v => ?_, good ⟨by omega, by omega, g3⟩⟩
    have e : decide (v ∈ ns.take (i + 1)) = (decide (v ∈ ns.take i) || decide (v = ns[i])) := by
      rw [take_one hi, Bool.eq_iff_iff, decide_eq_true_iff, Bool.or_eq_true, decide_eq_true_iff, decide_eq_true_iff, List.mem_append, List.mem_singleton]
    rw [e, ← hin]
  · obtain ⟨S, n, y2, y3, rfl, s, hP, hn, hin, hle⟩ := p'
    rw [List.length_map] at hle
    omega
def sp_check_sized_script (K : PySem.W.Frag) : Sp := fun vs H Q _ => ∃ (n : Nat) (b : Addr) (ts : List Addr) (cs : List Cmd), vs = [.int n, .ref b] ∧ 1 ≤ n ∧ SqL K H b (ts.map V.ref) ∧ Cm H ts cs ∧ Fits n cs ∧ ∀ H', Same H H' → Q .non H'
theorem ok_check_sized_script (T : Txt K mg) : FnG P w K mg base CX0 4 T.check_sized_script_a T.check_sized_script_d ["size", "commands"] (sp_check_sized_script K) := by
  refine okG T.check_sized_script_F sc_check_sized_script (fun vs H Q E h => ?_) (fun cdv A ou t H vs Q E hG hr h => ?_)
  · obtain ⟨_, _, _, _, rfl, _⟩ := h; rfl
  have nd := sc_check_sized_script.nd
  obtain ⟨n, b, ts, cs, rfl, hn, hS, hC, hF, q⟩ := h
  refine ⟨_, (pss_cons (ps_expr (pe_callG (ok_check_size T) hG (hr.mono (by decide)) (by rfl) T.check_size_g T.check_size_F.kp T.check_size_b .nil pass0 (pa_cons (pv 0) pa_nil)))
      (pss_one (ps_expr (pe_callG (ok_check_script T) hG (hr.mono (by decide)) (by rfl) T.check_script_g T.check_script_F.kp T.check_script_b .nil pass0 (pa_cons (pv 0) (pa_cons (pv 1) pa_nil)))))), ?_⟩
  fail "g"
  refine ⟨n, rfl, hn, ?_⟩
  fail "g"
  refine ⟨n, b, ts, cs, rfl, hS, hC, hF, fun H' s => ?_⟩
  fail "g"
  exact q _ s
def spx_check_sized_script (K : PySem.W.Frag) (T : Txt K mg) : Sp := fun vs H Q E => ∃ (n : Int) (b : Addr) (ts : List Addr) (ws : List Pr) (cy : Addr × V), vs = [.int n, .ref b] ∧ SqL K H b (ts.map V.ref) ∧ Cw H ts ws ∧ BadRun T n ws cy.1 cy.2 ∧ Err H E cy.1 cy.2
theorem okx_check_sized_script (T : Txt K mg) : FnG P w K mg base (L2N.CX P w) 4 T.check_sized_script_a T.check_sized_script_d ["size", "commands"] (spx_check_sized_script K T) := by
  refine okX T.check_sized_script_F sc_check_sized_script (fun vs H Q E h => ?_) (fun cdv A ou t H vs Q E hG hr h => ?_)
  · obtain ⟨_, _, _, _, _, rfl, _⟩ := h; rfl
  have nd := sc_check_sized_script.nd
  obtain ⟨n, b, ts, ws, ⟨c, y⟩, rfl, hS, hC, bd, q⟩ := h
  refine ⟨_, (pss_cons (ps_expr (pe_callX ((ok_check_size T).lift.or (okx_check_size T)) hG (hr.mono (by decide)) (by rfl) T.check_size_g T.check_size_F.kp T.check_size_b (L2N.takes_of rfl rfl rfl rfl) (pa_cons (pv 0) pa_nil)))
      (pss_one (ps_expr (pe_callX ((ok_check_script T).lift.or (okx_check_script T)) hG (hr.mono (by decide)) (by rfl) T.check_script_g T.check_script_F.kp T.check_script_b (L2N.takes_of rfl rfl rfl rfl) (pa_cons (pv 0) (pa_cons (pv 1) pa_nil)))))), ?_⟩
  fail "ww"
  rcases bd with ⟨hn, e1, e2⟩ | ⟨hn, i, hi, e1, e2⟩
  · obtain rfl : c = _ := e1
    obtain rfl : y = _ := e2
    exact .inr ⟨n, rfl, hn, q⟩
  · obtain rfl : c = _ := e1
    obtain rfl : y = _ := e2
    obtain ⟨m, rfl⟩ := Int.eq_ofNat_of_zero_le (show 0 ≤ n by omega)
    refine .inl ⟨m, rfl, by omega, ?_⟩
    fail "ww"
    exact .inr ⟨_, b, ts, ws, i, rfl, hS, hC, hi, q⟩
def sp_is_at_most (K : PySem.W.Frag) : Sp := fun vs H Q _ => ∃ (a b : Addr) (ns ms : List Int), vs = [.ref a, .ref b] ∧ SqL K H a (ns.map V.int) ∧ SqL K H b (ms.map V.int) ∧ IsArr ns ∧ IsArr ms ∧ ns.length = ms.length ∧ 1 ≤ ns.length ∧ ns.length ≤ 1000 ∧ ∀ H', Same H H' → Q (.bl (decide (AtMost ns ms))) H'
theorem ok_is_at_most (T : Txt K mg) : FnG P w K mg base CX0 4 T.is_at_most_a T.is_at_most_d ["first", "second"] (sp_is_at_most K) := by
  refine okG T.is_at_most_F sc_is_at_most (fun vs H Q E h => ?_) (fun cdv A ou t H vs Q E hG hr h => ?_)
  · obtain ⟨_, _, _, _, rfl, _⟩ := h; rfl
  have nd := sc_is_at_most.nd
  obtain ⟨a, b, ns, ms, rfl, hS, hB, hA, hM, hl, h1, hlen, q⟩ := h
  refine ⟨_, (pss_cons (ps_expr (pe_callG (ok_check_arrangement T) hG (hr.mono (by decide)) (by rfl) T.check_arrangement_g T.check_arrangement_F.kp T.check_arrangement_b .nil pass0 (pa_cons (pv 0) pa_nil)))
      (pss_cons (ps_expr (pe_callG (ok_check_arrangement T) hG (hr.mono (by decide)) (by rfl) T.check_arrangement_g T.check_arrangement_F.kp T.check_arrangement_b .nil pass0 (pa_cons (pv 1) pa_nil)))
      (pss_cons (ps_if (pt_cmpR op_ne (pe_callB (lenK K) (by rfl) T.m_len PySem.boot_len (pa_cons (pv 0) pa_nil)) (pe_callB (lenK K) (by rfl) T.m_len PySem.boot_len (pa_cons (pv 1) pa_nil)) (nomark _))
        (pss_one ps_never)
        pss_nil)
      (pss_cons (sset 2 nd (pe_op op_rep (pe_lst (pa_cons pe_int pa_nil)) (pe_callB (lenK K) (by rfl) T.m_len PySem.boot_len (pa_cons (pv 0) pa_nil))))
      (pss_cons (ps_for PassesOwn.never rfl (pi_zipK K (by rfl) T.m_zip (pa_cons (pv 0) (pa_cons (pv 1) pa_nil))) (pg_tupK K 2 rfl (pgs_cons (gset 3 nd) (pgs_cons (gset 4 nd) pgs_nil)))
        (pss_cons (ps_for PassesOwn.never rfl (pi_range2 (by rfl) T.m_range (pa_cons (pv 3) (pa_cons (pv 4) pa_nil))) (gset 5 nd)
        (pss_one (ps_augS (pv 2) (pv 5) (getK K) pe_int ip_add set_list)))
      (pss_one (ps_for PassesOwn.never rfl (pi_range2 (by rfl) T.m_range (pa_cons (pv 4) (pa_cons (pv 3) pa_nil))) (gset 5 nd)
        (pss_cons (ps_augS (pv 2) (pv 5) (getK K) pe_int ip_sub set_list)
      (pss_one (ps_if (pt_cmpR op_lt (pe_ix (ix_listK K) (pv 2) (pv 5) (fun _ _ => rfl)) pe_int (nomark _))
        (pss_one (ps_ret pe_bl))
        pss_nil)))))))
      (pss_one (ps_ret pe_bl))))))), ?_⟩
  fail "g"
  refine ⟨a, ns, rfl, hS, hA, hlen, fun H1 s1 => ?_⟩
  have hB1 := s1.seq hB
  fail "g"
  refine ⟨b, ms, rfl, hB1, hM, by omega, fun H2 s2 => ?_⟩
  have s := s1.trans s2
  have hS2 := s.seq hS
  have hB2 := s.seq hB
  fail "g"
  rw [List.length_map, List.length_map]
  refine r_itNF (by omega) ?_
  fail "g"
  intro z nz
  fail "g"
  have hS3 := s.trans (same_new (o := .lst [.int 0]) nz)
  refine r_len (hS3.seq hS) ?_
  rw [List.length_map]
  refine ⟨z, _, _, rfl, rfl, upd_same, by omega, by omega, by rw [Int.toNat_natCast]; exact size_le (by show 1 * ns.length ≤ _; omega), fun p np => ?_⟩
  have e0 : (List.replicate ((ns.length : Nat) : Int).toNat [V.int 0]).flatten = (tab ns.length fun _ => 0).map V.int := by
    rw [Int.toNat_natCast, ← tab_const, List.map_replicate]
    induction ns.length with
    | zero => rfl
    | succ n ih => rw [List.replicate_succ, List.replicate_succ, List.flatten_cons, ih]; rfl
  rw [e0]
  have s4 := hS3.trans (same_new (o := .lst ((tab ns.length fun _ => 0).map V.int)) np)
  have hp0 := hS3.free np
  fail "g"
  refine ⟨a, b, _, _, rfl, s4.seq hS, s4.seq hB, ?_⟩
  refine forP (walk_zip (xs := ns.map V.int) (ys := ms.map V.int) (n := ns.length) (by rw [List.length_map, List.length_map]; omega)) (fun i σ' H' => ∃ (y3 y4 y5 : Option V), σ' = [some (.ref a), some (.ref b), some (.ref p), y3, y4, y5] ∧ Same H H' ∧
      H' p = some (.lst ((tab ns.length fun q => (cnt ns i q : Int) - (cnt ms i q : Int)).map V.int)) ∧ ∀ i', i' ≤ i → ∀ q, q < ns.length → cnt ms i' q ≤ cnt ns i' q)
    ⟨none, none, none, rfl, s4, ?_, fun i' hi' q hq => ?_⟩ (fun i σ' H' _ p => ?_) (fun i σ' H' T1 x y hi p' e1 e2 nT => ?_) (fun σ' H' p' => ?_)
  · rw [upd_same]; simp [cnt_zero]
  · rw [show i' = 0 by omega, cnt_zero, cnt_zero]; exact Nat.le_refl _
  · obtain ⟨_, _, _, _, s, _⟩ := p; exact ⟨s.seq hS, s.seq hB⟩
  · obtain ⟨y3, y4, y5, rfl, s5, hP, hle⟩ := p'
    have hi2 : i < ms.length := by omega
    simp only [List.getElem?_map, List.getElem?_eq_getElem hi, List.getElem?_eq_getElem hi2] at e1 e2
    cases e1
    cases e2
    have hv := hA.2 ns[i] (List.getElem_mem hi)
    have hw := hM.2 ms[i] (List.getElem_mem hi2)
    have hca : ∀ q, cnt ns (i + 1) q = cnt ns i q + if ns[i] ≤ (q : Int) then 1 else 0 := fun q => cnt_succ hi q
    have hcb : ∀ q, cnt ms (i + 1) q = cnt ms i q + if ms[i] ≤ (q : Int) then 1 else 0 := fun q => cnt_succ hi2 q
    generalize ns[i] = vx at hv hca ⊢
    generalize ms[i] = vy at hw hcb ⊢
    obtain ⟨x, rfl⟩ := Int.eq_ofNat_of_zero_le (show 0 ≤ vx by omega)
    obtain ⟨y, rfl⟩ := Int.eq_ofNat_of_zero_le (show 0 ≤ vy by omega)
    have s6 := s5.trans (same_new (o := .tup [.int x, .int y]) nT)
    have hP6 := upd_old (o := .tup [.int x, .int y]) nT hP
    fail "g"
    refine ⟨⟨by omega, by omega, by omega, by omega⟩, ?_⟩
    refine forF walk_range (fun j σ' H' => ∃ (y5 : Option V), σ' = [some (.ref a), some (.ref b), some (.ref p), some (.int x), some (.int y), y5] ∧ Same H H' ∧
      H' p = some (.lst ((tab ns.length fun q => (cnt ns i q : Int) - (cnt ms i q : Int) + if x ≤ q ∧ q < x + j then 1 else 0).map V.int)))
      ⟨y5, rfl, s6, ?_⟩ (fun _ _ _ _ _ => trivial) (fun j σ' HA hj p' => ?_) (fun σ' HA p' => ?_)
    · rw [hP6]
      exact congrArg (fun l => some (HO.lst (List.map V.int l))) (tab_congr fun q _ => by rw [if_neg (by omega)]; omega)
    · obtain ⟨y5, rfl, sA, hPA⟩ := p'
      fail "g"
      refine r_ixL (sq hPA) (at_tab (k := x + j) (by omega) (by omega)) ?_
      fail "g"
      refine r_setL hPA (n := x + j) (ix_of (by omega) (by rw [List.length_map, tab_len]; omega)) ?_
      rw [map_set', tab_set]
      refine ⟨_, rfl, same_old sA hp0, ?_⟩
      rw [upd_same]
      refine congrArg (fun l => some (HO.lst (List.map V.int l))) (tab_congr fun q _ => ?_)
      by_cases e : q = x + j
      · subst e; (repeat' split) <;> omega
      · rw [if_neg e]; (repeat' split) <;> omega
    · obtain ⟨y5, rfl, sA, hPA⟩ := p'
      fail "g"
      refine ⟨⟨by omega, by omega, by omega, by omega⟩, ?_⟩
      refine forF walk_range (fun j σ' H' => ∃ (y5 : Option V), Same H H' ∧ σ' = [some (.ref a), some (.ref b), some (.ref p), some (.int x), some (.int y), y5] ∧
        H' p = some (.lst ((tab ns.length fun q => (cnt ns i q : Int) - (cnt ms i q : Int) + (if x ≤ q ∧ q < y then 1 else 0) - if y ≤ q ∧ q < y + j then 1 else 0).map V.int)) ∧ ∀ q, y ≤ q → q < y + j → cnt ms i q + 1 ≤ cnt ns i q)
        ⟨y5, sA, rfl, ?_, fun q h1 h2 => by omega⟩ (fun _ _ _ _ _ => trivial) (fun j σ' HB hj p' => ?_) (fun σ' HB p' => ?_)
      · rw [hPA]
        refine congrArg (fun l => some (HO.lst (List.map V.int l))) (tab_congr fun q _ => ?_)
        rw [if_neg (show ¬(y ≤ q ∧ q < y + 0) by omega)]
        by_cases e2 : x ≤ q ∧ q < y
        · rw [if_pos e2, if_pos (by omega)]; omega
        · rw [if_neg e2, if_neg (by omega)]; omega
      · obtain ⟨y5, sB, rfl, hPB, hok⟩ := p'
        fail "g"
        refine r_ixL (sq hPB) (at_tab (k := y + j) (by omega) (by omega)) ?_
        fail "g"
        refine r_setL hPB (n := y + j) (ix_of (by omega) (by rw [List.length_map, tab_len]; omega)) ?_
        rw [map_set', tab_set]
        fail "g"
        refine r_ixL (sq upd_same) (at_tab (k := y + j) (by omega) (by omega)) ?_
        fail "g"
        rw [if_pos rfl, if_neg (show ¬(x ≤ y + j ∧ y + j < y) by omega), if_neg (show ¬(y ≤ y + j ∧ y + j < y + j) by omega)]
        refine r_dec (fun h => ?_) (fun h => ?_)
        · fail "g"
          rw [show false = decide (AtMost ns ms) from (decide_eq_false (fun hall => by
            have h2 := hall (i + 1) (y + j)
            rw [hca, hcb, if_neg (show ¬(x : Int) ≤ ((y + j : Nat) : Int) by omega), if_pos (show (y : Int) ≤ ((y + j : Nat) : Int) by omega)] at h2
            omega)).symm]
          exact q _ (same_old sB hp0)
        · fail "g"
          refine ⟨_, same_old sB hp0, rfl, ?_, fun q h1 h2 => ?_⟩
          · rw [upd_same]
            refine congrArg (fun l => some (HO.lst (List.map V.int l))) (tab_congr fun q _ => ?_)
            by_cases e : q = y + j
            · subst e; (repeat' split) <;> omega
            · rw [if_neg e]; (repeat' split) <;> omega
          · by_cases e : q = y + j
            · subst e; omega
            · exact hok q h1 (by omega)
      · obtain ⟨y5, sB, rfl, hPB, hok⟩ := p'
        refine ⟨_, _, _, rfl, sB, ?_, fun i' hi' q hq => ?_⟩
        · rw [hPB]
          refine congrArg (fun l => some (HO.lst (List.map V.int l))) (tab_congr fun q _ => ?_)
          rw [hca, hcb]
          (repeat' split) <;> omega
        · by_cases e : i' ≤ i
          · exact hle i' e q hq
          · rw [show i' = i + 1 by omega, hca, hcb]
            have h0 := hle i (Nat.le_refl _) q hq
            by_cases e1 : x ≤ q
            · rw [if_pos (show (x : Int) ≤ (q : Int) by omega)]; split <;> omega
            · rw [if_neg (show ¬(x : Int) ≤ (q : Int) by omega)]
              by_cases e2 : y ≤ q
              · have := hok q e2 (by omega)
                rw [if_pos (show (y : Int) ≤ (q : Int) by omega)]; omega
              · rw [if_neg (show ¬(y : Int) ≤ (q : Int) by omega)]; omega
  · obtain ⟨y3, y4, y5, rfl, s5, hP, hle⟩ := p'
    fail "g"
    rw [show true = decide (AtMost ns ms) from (decide_eq_true ((most_iff hA hM hl).mpr hle)).symm]
    exact q _ s5
def spx_is_at_most (K : PySem.W.Frag) (T : Txt K mg) : Sp := fun vs H Q E => ∃ (a b : Addr) (ns ms : List Int) (cy : Addr × V), vs = [.ref a, .ref b] ∧ SqL K H a (ns.map V.int) ∧ SqL K H b (ms.map V.int) ∧ ns.length ≤ 1000 ∧ ms.length ≤ 1000 ∧ BadMost T ns ms cy.1 cy.2 ∧ Err H E cy.1 cy.2
theorem okx_is_at_most (T : Txt K mg) : FnG P w K mg base (L2N.CX P w) 4 T.is_at_most_a T.is_at_most_d ["first", "second"] (spx_is_at_most K T) := by
  refine okX T.is_at_most_F sc_is_at_most (fun vs H Q E h => ?_) (fun cdv A ou t H vs Q E hG hr h => ?_)
  · obtain ⟨_, _, _, _, _, rfl, _⟩ := h; rfl
  have nd := sc_is_at_most.nd
  obtain ⟨a, b, ns, ms, ⟨c, y⟩, rfl, hA, hB, hl, hl2, bd, q⟩ := h
  refine ⟨_, (pss_cons (ps_expr (pe_callX ((ok_check_arrangement T).lift.or (okx_check_arrangement T)) hG (hr.mono (by decide)) (by rfl) T.check_arrangement_g T.check_arrangement_F.kp T.check_arrangement_b (L2N.takes_of rfl rfl rfl rfl) (pa_cons (pv 0) pa_nil)))
      (pss_cons (ps_expr (pe_callX ((ok_check_arrangement T).lift.or (okx_check_arrangement T)) hG (hr.mono (by decide)) (by rfl) T.check_arrangement_g T.check_arrangement_F.kp T.check_arrangement_b (L2N.takes_of rfl rfl rfl rfl) (pa_cons (pv 1) pa_nil)))
      (pss_cons (ps_if (pt_cmpR op_ne (pe_callB (lenK K) (by rfl) T.m_len PySem.boot_len (pa_cons (pv 0) pa_nil)) (pe_callB (lenK K) (by rfl) T.m_len PySem.boot_len (pa_cons (pv 1) pa_nil)) (nomark _))
        (pss_one (ps_raiseV rfl (L2N.takes_of rfl rfl rfl rfl) T.UnequalSizes_E (ini_UnequalSizes T) (hr.mono (by decide)) T.UnequalSizes_i_b (by rfl) (pa_cons pe_non pa_nil)))
        pss_nil)
      (pss_cons (sset 2 nd (pe_op op_rep (pe_lst (pa_cons pe_int pa_nil)) (pe_callB (lenK K) (by rfl) T.m_len PySem.boot_len (pa_cons (pv 0) pa_nil))))
      (pss_cons (ps_for (passes_of rfl) rfl (pi_zipK K (by rfl) T.m_zip (pa_cons (pv 0) (pa_cons (pv 1) pa_nil))) (pg_tupK K 2 rfl (pgs_cons (gset 3 nd) (pgs_cons (gset 4 nd) pgs_nil)))
        (pss_cons (ps_for (passes_of rfl) rfl (pi_range2 (by rfl) T.m_range (pa_cons (pv 3) (pa_cons (pv 4) pa_nil))) (gset 5 nd)
        (pss_one (ps_augS (pv 2) (pv 5) (getK K) pe_int ip_add set_list)))
      (pss_one (ps_for (passes_of rfl) rfl (pi_range2 (by rfl) T.m_range (pa_cons (pv 4) (pa_cons (pv 3) pa_nil))) (gset 5 nd)
        (pss_cons (ps_augS (pv 2) (pv 5) (getK K) pe_int ip_sub set_list)
      (pss_one (ps_if (pt_cmpR op_lt (pe_ix (ix_listK K) (pv 2) (pv 5) (fun _ _ => rfl)) pe_int (nomark _))
        (pss_one (ps_ret pe_bl))
        pss_nil)))))))
      (pss_one (ps_ret pe_bl))))))), ?_⟩
  fail "ww"
  rcases bd with ⟨i, hi, e1, e2⟩ | ⟨hn, i, hi, e1, e2⟩ | ⟨hn, hm, hne, e1, e2⟩
  · obtain rfl : c = _ := e1
    obtain rfl : y = _ := e2
    exact .inr ⟨a, ns, i, rfl, hA, hl, hi, q⟩
  · obtain rfl : c = _ := e1
    obtain rfl : y = _ := e2
    refine .inl ⟨a, ns, rfl, hA, eR_arr hn, hl, fun H1 s1 => ?_⟩
    fail "ww"
    exact .inr ⟨b, ms, i, rfl, s1.seq hB, hl2, hi, q.up s1⟩
  · obtain rfl : c = _ := e1
    obtain rfl : y = _ := e2
    refine .inl ⟨a, ns, rfl, hA, eR_arr hn, hl, fun H1 s1 => ?_⟩
    fail "ww"
    refine .inl ⟨b, ms, rfl, s1.seq hB, eR_arr hm, hl2, fun H2 s2 => ?_⟩
    have hA2 := (s1.trans s2).seq hA
    have hB2 := (s1.trans s2).seq hB
    fail "ww"
    rw [List.length_map, List.length_map, decide_eq_false (show ¬ ((ns.length : Nat) : Int) = ((ms.length : Nat) : Int) by omega)]
    fail "ww"
    exact fun d hd => q _ d (s1.trans s2) hd
def sp_law_built_right (K : PySem.W.Frag) : Sp := fun vs H Q _ => ∃ (y : V), vs = [y] ∧ Flat3 y ∧ ∀ H', Same H H' → Q (.bl true) H'
theorem ok_law_built_right (T : Txt K mg) : FnG P w K mg base CX0 4 T.law_built_right_a T.law_built_right_d ["thing"] (sp_law_built_right K) := by
  refine okG T.law_built_right_F sc_law_built_right (fun vs H Q E h => ?_) (fun cdv A ou t H vs Q E hG hr h => ?_)
  · obtain ⟨_, rfl, _⟩ := h; rfl
  have nd := sc_law_built_right.nd
  obtain ⟨y, rfl, hy, k⟩ := h
  refine ⟨_, (pss_cons (sset 1 nd (pe_lst (pa_cons (pe_mkX T.InvalidSize_E (ini_InvalidSize T) (hr.mono (by decide)) T.InvalidSize_i_b (by rfl) (pa_cons (pv 0) pa_nil)) (pa_cons (pe_mkX T.InvalidCommand_E (ini_InvalidCommand T) (hr.mono (by decide)) T.InvalidCommand_i_b (by rfl) (pa_cons (pv 0) pa_nil)) (pa_cons (pe_mkX T.InvalidRow_E (ini_InvalidRow T) (hr.mono (by decide)) T.InvalidRow_i_b (by rfl) (pa_cons (pv 0) pa_nil)) (pa_cons (pe_mkX T.InvalidNumber_E (ini_InvalidNumber T) (hr.mono (by decide)) T.InvalidNumber_i_b (by rfl) (pa_cons (pv 0) pa_nil)) (pa_cons (pe_mkX T.UnequalSizes_E (ini_UnequalSizes T) (hr.mono (by decide)) T.UnequalSizes_i_b (by rfl) (pa_cons (pv 0) pa_nil)) pa_nil)))))))
      (pss_cons (sset 1 nd (pe_op op_cat (pv 1) (pe_lst (pa_cons (pe_mkX T.NothingToUndo_E (ini_NothingToUndo T) (hr.mono (by decide)) T.NothingToUndo_i_b (by rfl) (pa_cons (pv 0) pa_nil)) (pa_cons (pe_mkX T.Unreadable_E (ini_Unreadable T) (hr.mono (by decide)) T.Unreadable_i_b (by rfl) (pa_cons (pv 0) pa_nil)) (pa_cons (pe_mkXK T.InvalidSize_E (ini_InvalidSize T) (hr.mono (by decide)) T.InvalidSize_i_kb (fun _ _ => rfl) (fun _ _ => rfl) (by rfl) (pk_cons (pv 0) pk_nil)) (pa_cons (pe_mkXK T.InvalidCommand_E (ini_InvalidCommand T) (hr.mono (by decide)) T.InvalidCommand_i_kb (fun _ _ => rfl) (fun _ _ => rfl) (by rfl) (pk_cons (pv 0) pk_nil)) pa_nil)))))))
      (pss_cons (sset 1 nd (pe_op op_cat (pv 1) (pe_lst (pa_cons (pe_mkXK T.InvalidRow_E (ini_InvalidRow T) (hr.mono (by decide)) T.InvalidRow_i_kb (fun _ _ => rfl) (fun _ _ => rfl) (by rfl) (pk_cons (pv 0) pk_nil)) (pa_cons (pe_mkXK T.InvalidNumber_E (ini_InvalidNumber T) (hr.mono (by decide)) T.InvalidNumber_i_kb (fun _ _ => rfl) (fun _ _ => rfl) (by rfl) (pk_cons (pv 0) pk_nil)) (pa_cons (pe_mkXK T.UnequalSizes_E (ini_UnequalSizes T) (hr.mono (by decide)) T.UnequalSizes_i_kb (fun _ _ => rfl) (fun _ _ => rfl) (by rfl) (pk_cons (pv 0) pk_nil)) pa_nil))))))
      (pss_cons (sset 1 nd (pe_op op_cat (pv 1) (pe_lst (pa_cons (pe_mkXK T.NothingToUndo_E (ini_NothingToUndo T) (hr.mono (by decide)) T.NothingToUndo_i_kb (fun _ _ => rfl) (fun _ _ => rfl) (by rfl) (pk_cons (pv 0) pk_nil)) (pa_cons (pe_mkXK T.Unreadable_E (ini_Unreadable T) (hr.mono (by decide)) T.Unreadable_i_kb (fun _ _ => rfl) (fun _ _ => rfl) (by rfl) (pk_cons (pv 0) pk_nil)) pa_nil)))))
      (pss_cons (sset 2 nd (pe_lst (pa_cons pe_str (pa_cons pe_str (pa_cons pe_str (pa_cons pe_str (pa_cons pe_str (pa_cons pe_str (pa_cons pe_str pa_nil)))))))))
      (pss_cons (ps_if (pt_cmpR (neDK K hr.units) (pe_lc (own := [("one", 3)]) (hc := rfl) (hN := nd) (hi := (pi_listK K (pv 1))) (ok := blkOk_by (by rfl)) (hg := fun _ _ _ _ _ => (gset 3 nd)) (ht := (fun _ _ _ _ _ => pts_nil)) (he := fun _ _ _ _ _ => (pe_callG (ok_law_kind T) hG (hr.mono (by decide)) (by rfl) T.law_kind_g T.law_kind_F.kp T.law_kind_b .nil pass0 (pa_cons (pv 3) pa_nil)))) (pe_lc (own := [("name", 4)]) (hc := rfl) (hN := nd) (hi := (pi_listK K (pe_op op_cat (pv 2) (pv 2)))) (ok := blkOk_by (by rfl)) (hg := fun _ _ _ _ _ => (gset 4 nd)) (ht := (fun _ _ _ _ _ => pts_nil)) (he := fun _ _ _ _ _ => (pe_lst (pa_cons (pv 4) (pa_cons (pv 0) pa_nil))))) (nomark _))
        (pss_one (ps_ret pe_bl))
        pss_nil)
      (pss_one (ps_ret (pe_cmpR (eqDK K hr.units) (pe_lc (own := [("one", 3)]) (hc := rfl) (hN := nd) (hi := (pi_listK K (pv 1))) (ok := blkOk_by (by rfl)) (hg := fun _ _ _ _ _ => (gset 3 nd)) (ht := (fun _ _ _ _ _ => pts_one (pt_not (pt_val (pe_callB (isOK K) (by rfl) T.m_isinstance (by decide +kernel) (pa_cons (pv 3) (pa_cons (pe_glob (v := .ref T.SortError_a) (by rfl) T.SortError_g rfl) pa_nil))))))) (he := fun _ _ _ _ _ => pe_int)) (pe_lst pa_nil) (nomark _)))))))))), ?_⟩
  obtain ⟨dy, hdy, dl, dd⟩ : ∃ d : PyData, (∀ H', Dp K H' y d) ∧ d.canLay0 = true ∧ d.depth = 0 := by
    rcases hy with rfl | ⟨i, rfl⟩ | ⟨z, rfl, hz⟩
    · exact ⟨.none, fun _ => .non, rfl, rfl⟩
    · exact ⟨.int i, fun _ => .int i, rfl, rfl⟩
    · exact ⟨.str z, fun _ => .str z, hz, rfl⟩
  have m0 : Made K T H [] y := .nil
  fail "ww"
  refine fun a1 H1 n1 s1 x1 => ?_
  have m1 := m0.snoc s1 x1 (kq_size T) (by simp)
  have u1 := s1
  clear s1 n1 x1
  fail "ww"
  refine fun a2 H2 n2 s2 x2 => ?_
  have m2 := m1.snoc s2 x2 (kq_command T) (by simp)
  have u2 := u1.trans s2
  clear s2 n2 x2
  fail "ww"
  refine fun a3 H3 n3 s3 x3 => ?_
  have m3 := m2.snoc s3 x3 (kq_row T) (by simp)
  have u3 := u2.trans s3
  clear s3 n3 x3
  fail "ww"
  refine fun a4 H4 n4 s4 x4 => ?_
  have m4 := m3.snoc s4 x4 (kq_number T) (by simp)
  have u4 := u3.trans s4
  clear s4 n4 x4
  fail "ww"
  refine fun a5 H5 n5 s5 x5 => ?_
  have m5 := m4.snoc s5 x5 (kq_unequal T) (by simp)
  have u5 := u4.trans s5
  clear s5 n5 x5
  fail "ww"
  refine new_ fun l0 G0 nl sl hl => ?_
  replace m5 := m5.same sl
  replace u5 := u5.trans sl
  have hp := hl
  clear hl nl sl
  fail "ww"
  refine fun a6 H6 n6 s6 x6 => ?_
  have m6 := m5.snoc s6 x6 (kq_undo T) (by simp)
  have u6 := u5.trans s6
  replace hp := s6 _ _ hp
  clear s6 n6 x6
  fail "ww"
  refine fun a7 H7 n7 s7 x7 => ?_
  have m7 := m6.snoc s7 x7 (kq_text T) (by simp)
  have u7 := u6.trans s7
  replace hp := s7 _ _ hp
  clear s7 n7 x7
  fail "ww"
  refine fun a8 H8 n8 s8 x8 => ?_
  have m8 := m7.snoc s8 x8 (kq_size T) (by simp)
  have u8 := u7.trans s8
  replace hp := s8 _ _ hp
  clear s8 n8 x8
  fail "ww"
  refine fun a9 H9 n9 s9 x9 => ?_
  have m9 := m8.snoc s9 x9 (kq_command T) (by simp)
  have u9 := u8.trans s9
  replace hp := s9 _ _ hp
  clear s9 n9 x9
  fail "ww"
  refine new_ fun l1 G1 nl sl hl => ?_
  replace m9 := m9.same sl
  replace u9 := u9.trans sl
  refine n_cat (xs := [.ref a1, .ref a2, .ref a3, .ref a4, .ref a5]) (ys := [.ref a6, .ref a7, .ref a8, .ref a9]) (sl _ _ hp) hl (size_le (by simp)) (new_ fun k1 F1 nk sk hk => ?_)
  replace m9 := m9.same sk
  replace u9 := u9.trans sk
  clear hl nl sl nk sk hp
  have hp := hk
  clear hk
  fail "ww"
  refine fun a10 H10 n10 s10 x10 => ?_
  have m10 := m9.snoc s10 x10 (kq_row T) (by simp)
  have u10 := u9.trans s10
  replace hp := s10 _ _ hp
  clear s10 n10 x10
  fail "ww"
  refine fun a11 H11 n11 s11 x11 => ?_
  have m11 := m10.snoc s11 x11 (kq_number T) (by simp)
  have u11 := u10.trans s11
  replace hp := s11 _ _ hp
  clear s11 n11 x11
  fail "ww"
  refine fun a12 H12 n12 s12 x12 => ?_
  have m12 := m11.snoc s12 x12 (kq_unequal T) (by simp)
  have u12 := u11.trans s12
  replace hp := s12 _ _ hp
  clear s12 n12 x12
  fail "ww"
  refine new_ fun l2 G2 nl sl hl => ?_
  replace m12 := m12.same sl
  replace u12 := u12.trans sl
  refine n_cat (xs := [.ref a1, .ref a2, .ref a3, .ref a4, .ref a5, .ref a6, .ref a7, .ref a8, .ref a9]) (ys := [.ref a10, .ref a11, .ref a12]) (sl _ _ hp) hl (size_le (by simp)) (new_ fun k2 F2 nk sk hk => ?_)
  replace m12 := m12.same sk
  replace u12 := u12.trans sk
  clear hl nl sl nk sk hp
  have hp := hk
  clear hk
  fail "ww"
  refine fun a13 H13 n13 s13 x13 => ?_
  have m13 := m12.snoc s13 x13 (kq_undo T) (by simp)
  have u13 := u12.trans s13
  replace hp := s13 _ _ hp
  clear s13 n13 x13
  fail "ww"
  refine fun a14 H14 n14 s14 x14 => ?_
  have m14 := m13.snoc s14 x14 (kq_text T) (by simp)
  have u14 := u13.trans s14
  replace hp := s14 _ _ hp
  clear s14 n14 x14
  fail "ww"
  refine new_ fun l3 G3 nl sl hl => ?_
  replace m14 := m14.same sl
  replace u14 := u14.trans sl
  refine n_cat (xs := [.ref a1, .ref a2, .ref a3, .ref a4, .ref a5, .ref a6, .ref a7, .ref a8, .ref a9, .ref a10, .ref a11, .ref a12]) (ys := [.ref a13, .ref a14]) (sl _ _ hp) hl (size_le (by simp)) (new_ fun k3 F3 nk sk hk => ?_)
  replace m14 := m14.same sk
  replace u14 := u14.trans sk
  clear hl nl sl nk sk hp
  have hp := hk
  clear hk
  fail "ww"
  refine new_ fun ln G5 nl sl hl => ?_
  have hM : Made K T G5 [a1, a2, a3, a4, a5, a6, a7, a8, a9, a10, a11, a12, a13, a14] y := m14.same sl
  have hP : G5 k3 = some (.lst ([a1, a2, a3, a4, a5, a6, a7, a8, a9, a10, a11, a12, a13, a14].map V.ref)) := sl _ _ hp
  replace u14 := u14.trans sl
  obtain ⟨as, has⟩ : ∃ as : List Addr, as = [a1, a2, a3, a4, a5, a6, a7, a8, a9, a10, a11, a12, a13, a14] := ⟨_, rfl⟩
  rw [← has] at hM hP
  have hal : as.length = 14 := by rw [has]; rfl
  clear has m0 m1 m2 m3 m4 m5 m6 m7 m8 m9 m10 m11 m12 m13 m14 hp nl sl
  fail "ww"
  intro D nD
  refine lc_it (walk_list (xs := as.map V.ref)) (fun i Hh => PrI G5 D y (fun j => nmS (j % 7)) i Hh) (pri_nil nD) (fun i Hh _ pp => sq (pp.sm _ _ hP)) (fun i x Hh Hh' hi pp e => ?_) (fun G6 pp => ?_)
  · obtain ⟨rfl, ex⟩ := e
    have hi' : i < as.length := by simpa using hi
    rw [List.getElem?_map, List.getElem?_eq_getElem hi'] at ex
    cases ex
    obtain ⟨D1, hx, kq⟩ := hM i as[i] (List.getElem?_eq_getElem hi')
    have sk := pp.sm
    fail "ww"
    refine ⟨rfl, ?_⟩
    fail "ww"
    refine ⟨as[i], D1, y, i % 7, rfl, hx.same sk, kq, fun H2 p s2 np hp2 => ?_⟩
    exact pri_put pp nD (by omega) s2 np hp2
  fail "ww"
  have s6 := pp.sm
  have hl6 := s6 _ _ hl
  have hP6 := s6 _ _ hP
  have hM6 := hM.same s6
  have u6 := u14.trans s6
  clear hl hP hM u14 s6
  refine n_cat (xs := [.str "size", .str "command", .str "row", .str "number", .str "unequal", .str "undo", .str "text"]) (ys := [.str "size", .str "command", .str "row", .str "number", .str "unequal", .str "undo", .str "text"]) hl6 hl6 (size_le (by simp)) (new_ fun lc G7 nc sc hc => ?_)
  have pp7 := pp.same sc
  have hP7 := sc _ _ hP6
  have hM7 := hM6.same sc
  have u7 := u6.trans sc
  clear hl6 hP6 hM6 u6 sc nc pp
  fail "ww"
  intro D2 nD2
  refine lc_it (walk_list (xs := [.str "size", .str "command", .str "row", .str "number", .str "unequal", .str "undo", .str "text", .str "size", .str "command", .str "row", .str "number", .str "unequal", .str "undo", .str "text"])) (fun i Hh => PrI G7 D2 y (fun j => nmS (j % 7)) i Hh) (pri_nil nD2) (fun i Hh _ pp => sq (pp.sm _ _ hc)) (fun i x Hh Hh' hi pp e => ?_) (fun G8 pp8 => ?_)
  · obtain ⟨rfl, ex⟩ := e
    have hi' : i < 14 := hi
    rw [nm14 i hi'] at ex
    cases ex
    fail "ww"
    refine ⟨rfl, ?_⟩
    fail "ww"
    refine new_ fun p H2 np s2 hp2 => ?_
    exact pri_put pp nD2 (by omega) s2 np hp2
  have s8 := pp8.sm
  obtain ⟨dt, hdt⟩ : ∃ dt : PyData, dt = .list ((List.range 14).map fun j => .list [.str (nmS (j % 7)), dy]) := ⟨_, rfl⟩
  have e14 : (as.map V.ref).length = 14 := by rw [List.length_map]; exact hal
  rw [e14] at pp7
  have dp1 : Dp K G8 (.ref D) dt := by rw [hdt]; exact pri_dp (pp7.same s8) hdy
  have dp2 : Dp K G8 (.ref D2) dt := by rw [hdt]; exact pri_dp pp8 hdy
  have sh : SeqAt.shaped dt = true := by rw [hdt]; exact d14_ok dl dd
  refine ⟨dt, dt, dp1, dp2, sh, sh, ?_⟩
  rw [PySem.SeqAt.eqv_refl dt (by rw [hdt]; exact d14_lay dl _)]
  clear hdt sh e14
  have hP8 := s8 _ _ hP7
  have hM8 := hM7.same s8
  have u8 := u7.trans s8
  clear dp1 dp2 s8 pp7 pp8 hP7 hM7 u7 hc
  fail "ww"
  intro D3 nD3
  refine lc_same (walk_list (xs := as.map V.ref)) (fun _ => []) nD3 (Same.refl _) rfl (fun Hh s => sq (s _ _ hP8)) (fun i x Hh Hh' hi pp e => ?_) (fun G9 s9 hL => ?_)
  · obtain ⟨rfl, ex⟩ := e
    have hi' : i < as.length := by simpa using hi
    rw [List.getElem?_map, List.getElem?_eq_getElem hi'] at ex
    cases ex
    obtain ⟨D1, hx, kq⟩ := hM8 i as[i] (List.getElem?_eq_getElem hi')
    fail "ww"
    refine ⟨rfl, ?_⟩
    fail "ww"
    refine r_isO (hx.same pp.1) (fun _ r => r) kq.x kq.k7 ?_
    fail "ww"
    exact pp
  fail "ww"
  refine new_ fun e0 G10 n0 s10 h0 => ?_
  exact ⟨.list [], .list [], .lst (sq (s10 _ _ hL)) .nil, .lst (sq h0) .nil, rfl, rfl, k _ (u8.trans (s9.trans s10))⟩
def sp_run (K : PySem.W.Frag) : Sp := fun vs H Q _ => ∃ (a b : Addr) (ns : List Int) (ts : List Addr) (cs : List Cmd), vs = [.ref a, .ref b] ∧ SqL K H a (ns.map V.int) ∧ SqL K H b (ts.map V.ref) ∧ Cm H ts cs ∧ 1 ≤ ns.length ∧ ns.length ≤ 1000 ∧ Fits ns.length cs ∧
  ∀ (H' : Hp) (p : Addr), Same H H' → H p = none → H' p = some (.lst ((runM ns cs).map V.int)) → Q (.ref p) H'
theorem ok_run (T : Txt K mg) : FnG P w K mg base CX0 5 T.run_a T.run_d ["row", "commands"] (sp_run K) := by
  refine okG T.run_F sc_run (fun vs H Q E h => ?_) (fun cdv A ou t H vs Q E hG hr h => ?_)
  · obtain ⟨_, _, _, _, _, rfl, _⟩ := h; rfl
  have nd := sc_run.nd
  obtain ⟨a, b, ns, ts, cs, rfl, hS, hB, hC, hn, hn2, hF, q⟩ := h
  refine ⟨_, (pss_cons (ps_expr (pe_callG (ok_check_sized_script T) hG (hr.mono (by decide)) (by rfl) T.check_sized_script_g T.check_sized_script_F.kp T.check_sized_script_b .nil pass0 (pa_cons (pe_callB (lenK K) (by rfl) T.m_len PySem.boot_len (pa_cons (pv 0) pa_nil)) (pa_cons (pv 1) pa_nil))))
      (pss_one (ps_ret (pe_callG (ok_sort_stretches T) hG (hr.mono (by decide)) (by rfl) T.sort_stretches_g T.sort_stretches_F.kp T.sort_stretches_b .nil pass0 (pa_cons (pv 0) (pa_cons (pv 1) pa_nil)))))), ?_⟩
  fail "g"
  rw [List.length_map]
  refine ⟨ns.length, b, ts, cs, rfl, hn, hB, hC, hF, fun H1 s1 => ?_⟩
  fail "g"
  refine ⟨a, b, ns, ts, cs, rfl, s1.seq hS, s1.seq hB, hC.same s1, hn2, hF, fun H2 p s2 np hP => ?_⟩
  fail "g"
  exact q _ p (s1.trans s2) (s1.free np) hP
def spx_run (K : PySem.W.Frag) (T : Txt K mg) : Sp := fun vs H Q E => ∃ (a b : Addr) (ns : List Int) (ts : List Addr) (ws : List Pr) (cy : Addr × V), vs = [.ref a, .ref b] ∧ SqL K H a (ns.map V.int) ∧ SqL K H b (ts.map V.ref) ∧ Cw H ts ws ∧ BadRun T ns.length ws cy.1 cy.2 ∧ Err H E cy.1 cy.2
theorem okx_run (T : Txt K mg) : FnG P w K mg base (L2N.CX P w) 5 T.run_a T.run_d ["row", "commands"] (spx_run K T) := by
  refine okX T.run_F sc_run (fun vs H Q E h => ?_) (fun cdv A ou t H vs Q E hG hr h => ?_)
  · obtain ⟨_, _, _, _, _, _, rfl, _⟩ := h; rfl
  have nd := sc_run.nd
  obtain ⟨a, b, ns, ts, ws, cy, rfl, hA, hS, hC, bd, q⟩ := h
  refine ⟨_, (pss_cons (ps_expr (pe_callX ((ok_check_sized_script T).lift.or (okx_check_sized_script T)) hG (hr.mono (by decide)) (by rfl) T.check_sized_script_g T.check_sized_script_F.kp T.check_sized_script_b (L2N.takes_of rfl rfl rfl rfl) (pa_cons (pe_callB (lenK K) (by rfl) T.m_len PySem.boot_len (pa_cons (pv 0) pa_nil)) (pa_cons (pv 1) pa_nil))))
      (pss_one (ps_ret (pe_callG (ok_sort_stretches T) hG (hr.mono (by decide)) (by rfl) T.sort_stretches_g T.sort_stretches_F.kp T.sort_stretches_b .nil pass0 (pa_cons (pv 0) (pa_cons (pv 1) pa_nil)))))), ?_⟩
  fail "ww"
  refine .inr ⟨_, b, ts, ws, cy, rfl, hS, hC, by rw [List.length_map]; exact bd, q⟩
def spv_stages (K : PySem.W.Frag) : SpV := fun vs H C => ∃ (a b : Addr) (ns : List Int) (ts : List Addr) (cs : List Cmd), vs = [.ref a, .ref b] ∧ 1 ≤ ns.length ∧ ns.length ≤ 1000 ∧ ts.length = cs.length ∧ cs.length ≤ 100000 ∧ Fits ns.length cs ∧ C (stgM K a b ns ts cs) none
theorem okv_stages (T : Txt K mg) : GFnV P w K mg base 5 T.stages_a T.stages_d ["row", "commands"] (spv_stages K) := by
  refine okGV T.stages_F sc_stages (fun _ => rfl) (fun vs H C h => ?_) (fun vs H C h => ?_)
  · obtain ⟨_, _, _, _, _, rfl, _⟩ := h; rfl
  have nd := sc_stages.nd
  obtain ⟨a, b, ns, ts, cs, rfl, hn1, hn2, htl, hc2, hF, hC⟩ := h
  refine ⟨stgM K a b ns ts cs, none, hC, fun cdv A ou t E hG hr => ?_⟩
  refine ⟨_, (gvs_cons (gv_ps (fun _ _ z => z) (fun _ => (ps_expr (pe_callG (ok_check_sized_script T) hG (hr.mono (by decide)) (by rfl) T.check_sized_script_g T.check_sized_script_F.kp T.check_sized_script_b .nil pass0 (pa_cons (pe_callB (lenK K) (by rfl) T.m_len PySem.boot_len (pa_cons (pv 0) pa_nil)) (pa_cons (pv 1) pa_nil))))))
      (gvs_cons (gv_ps (fun _ _ z => z) (fun _ => (sset 2 nd (pe_callTy (listK K) (by rfl) T.m_list (by decide +kernel) (pa_cons (pv 0) pa_nil)))))
      (gvs_cons (gv_yield (fun _ _ z => z) (fun _ => (pe_callTy (listK K) (by rfl) T.m_list (by decide +kernel) (pa_cons (pv 2) pa_nil))))
      (gvs_cons (gv_for (fun _ _ z => z) rfl rfl (fun _ => (pi_listK K (pv 1))) (fun _ => (pg_tupK K 2 rfl (pgs_cons (gset 3 nd) (pgs_cons (gset 4 nd) pgs_nil))))
        (gvs_cons (gv_ps (fun _ _ z => z) (fun _ => (ps_asg (pe_callB (sortedK K) (by rfl) T.m_sorted (by decide +kernel) (pa_cons (pe_slice (sl_listK K) (pv 2) (po_some (pe_op op_sub (pv 3) pe_int)) (po_some (pv 4))) pa_nil)) (pg_slc (pv 2) (po_some (pe_op op_sub (pv 3) pe_int)) (po_some (pv 4))))))
      (gvs_cons (gv_yield (fun _ _ z => z) (fun _ => (pe_callTy (listK K) (by rfl) T.m_list (by decide +kernel) (pa_cons (pv 2) pa_nil))))
      gvs_nil)))
      gvs_nil)))), fun H2 st => ?_⟩
  obtain ⟨hB, hCm, h0, _⟩ := st
  obtain ⟨_, hS⟩ := h0 rfl
  fail "ww"
  refine ⟨ns.length, b, ts, cs, by rw [List.length_map]; rfl, hn1, hB, hCm, hF, fun H3 s1 => ?_⟩
  have hS1 := s1.seq hS
  have hB1 := s1.seq hB
  have hC1 := hCm.same s1
  fail "ww"
  refine new_ fun p H4 np s4 hp => ?_
  fail "ww"
  refine new_ fun c0 H5 nc s5 hc => ?_
  have hp5 := s5 _ _ hp
  have hB5 := (s1.trans (s4.trans s5)).seq hB
  have hC5 := hCm.same (s1.trans (s4.trans s5))
  have s05 := s1.trans (s4.trans s5)
  refine ⟨some p, Nat.succ_pos _, ⟨p, c0, rfl, rfl, (ne_of_none hp nc).symm, ?_, fun _ => s1.free np, (fun p0 z => by cases z), KeepBut.of s05 _, ?_, ?_⟩, fun H6 st6 => ?_⟩
  · exact s1.free (s4.free nc)
  · show H5 p = some (.lst ((runM ns (cs.take 0)).map V.int))
    rw [List.take_zero]; exact hp5
  · show H5 c0 = some (.lst ((runM ns (cs.take 0)).map V.int))
    rw [List.take_zero]; exact hc
  fail "ww"
  refine ⟨⟨_, st6.1⟩, ?_⟩
  refine vforA (walk_list (xs := ts.map V.ref)) (fun i u σ' H' => ∃ y3 y4, u = (i + 1, some p, H') ∧ σ' = [some (.ref a), some (.ref b), some (.ref p), y3, y4] ∧ SqL K H' b (ts.map V.ref) ∧ Cm H' ts cs ∧ H' p = some (.lst ((runM ns (cs.take i)).map V.int)))
    ⟨none, none, rfl, rfl, st6.1, st6.2.1, ?_⟩ (fun i u σ' H' _ q => ?_) (fun i u σ' H' hi q => ?_) (fun u σ' H' q' => ?_)
  · obtain ⟨p1, e1, h3⟩ := st6.2.2.2 (Nat.le_refl _)
    cases e1
    exact h3
  · obtain ⟨_, _, _, _, hB', _⟩ := q; exact hB'
  · obtain ⟨y3, y4, rfl, rfl, hB', hC', hP⟩ := q
    have hi' : i < cs.length := by rw [← htl]; simpa using hi
    obtain ⟨t0, et, ht⟩ := hC'.idx hi'
    have e1 : (ts.map V.ref)[i] = .ref t0 := by
      have : (ts.map V.ref)[i]? = some (.ref t0) := by rw [List.getElem?_map, et]; rfl
      rw [List.getElem?_eq_getElem hi] at this
      exact Option.some.inj this
    rw [e1]
    have hcf := hF cs[i] (List.getElem_mem hi')
    have hlenP : (runM ns (cs.take i)).length = ns.length := runM_len hF.take
    fail "ww"
    refine n_slM (sq hP) (a := cs[i].1 - 1) (c := cs[i].2) (by omega) rfl (new_ fun l0 H7 n0 s7 h0 => ?_)
    fail "ww"
    refine ⟨l0, _, rfl, sq h0, fun ns' l1 hperm hup n1 => ?_⟩
    have e2 := srt_is hperm hup
    subst e2
    have hP7 := s7 _ _ hP
    have s8 := same_new (o := .lst ((srt (((runM ns (cs.take i)).drop (cs[i].1 - 1)).take (cs[i].2 - (cs[i].1 - 1)))).map V.int)) n1
    have hP8 := s8 _ _ hP7
    have hl8 : upd H7 l1 (.lst ((srt (((runM ns (cs.take i)).drop (cs[i].1 - 1)).take (cs[i].2 - (cs[i].1 - 1)))).map V.int)) l1 = some (.lst ((srt (((runM ns (cs.take i)).drop (cs[i].1 - 1)).take (cs[i].2 - (cs[i].1 - 1)))).map V.int)) := upd_same
    have hpl : p ≠ l1 := ne_of_none hP7 n1
    have s78 := s7.trans s8
    clear s8 s7 hP7 h0 n0 n1 hperm hup
    generalize upd H7 l1 (.lst ((srt (((runM ns (cs.take i)).drop (cs[i].1 - 1)).take (cs[i].2 - (cs[i].1 - 1)))).map V.int)) = H8 at *
    fail "ww"
    refine ⟨p, l1, _, _, _, _, rfl, rfl, rfl, rfl, hP8, hl8, hpl, by omega, by omega, by rw [List.length_map]; omega, ?_, ?_⟩
    · rw [List.length_map, List.length_map, srt_len, List.length_take, List.length_drop]; exact size_le (by omega)
    have e7 : ((runM ns (cs.take i)).map V.int).take (((cs[i].1 : Nat) : Int) - 1).toNat ++ (srt (((runM ns (cs.take i)).drop (cs[i].1 - 1)).take (cs[i].2 - (cs[i].1 - 1)))).map V.int ++ ((runM ns (cs.take i)).map V.int).drop (((cs[i].2 : Nat) : Int)).toNat = (runM ns (cs.take (i + 1))).map V.int := by
      rw [take_one hi', runM_snoc, show ((cs[i].1 : Nat) - 1 : Int).toNat = cs[i].1 - 1 by omega, show ((cs[i].2 : Nat) : Int).toNat = cs[i].2 by omega, ← List.map_take, ← List.map_drop, ← List.map_append, ← List.map_append]
      rfl
    rw [e7]
    have hP9 : upd H8 p (.lst ((runM ns (cs.take (i + 1))).map V.int)) p = some (.lst ((runM ns (cs.take (i + 1))).map V.int)) := upd_same
    have kb9 : KeepBut (some p) H' (upd H8 p (.lst ((runM ns (cs.take (i + 1))).map V.int))) := fun b u e hb => by
      rw [upd_ne (fun z => hb (by rw [z]))]; exact s78 _ _ e
    have free9 : ∀ {c}, upd H8 p (.lst ((runM ns (cs.take (i + 1))).map V.int)) c = none → H' c = none := fun {c} e => s78.free (by
      by_cases z : c = p
      · rw [z, upd_same] at e; cases e
      · rw [upd_ne z] at e; exact e)
    generalize upd H8 p (.lst ((runM ns (cs.take (i + 1))).map V.int)) = H9 at *
    fail "ww"
    refine new_ fun c1 H10 nc1 s10 hc1 => ?_
    refine ⟨some p, ?_, ⟨p, c1, rfl, rfl, (ne_of_none hP9 nc1).symm, free9 nc1, (fun z => by cases z), fun p0 z => ?_, fun b u e hb => s10 _ _ (kb9 b u e hb), s10 _ _ hP9, hc1⟩, fun H11 st11 => ?_⟩
    · show i + 1 < cs.length + 1; omega
    · cases z; exact ⟨rfl, _, hP⟩
    obtain ⟨hB11, hC11, _, st11⟩ := st11
    obtain ⟨p1, z1, z4⟩ := st11 (by omega)
    cases z1
    fail "ww"
    exact ⟨hB11, hC11, z4⟩
  · obtain ⟨y3, y4, rfl, rfl, _⟩ := q'
    fail "ww"
    refine ⟨?_, Same.refl _⟩
    show (ts.map V.ref).length + 1 = cs.length + 1
    rw [List.length_map, htl]
/-- list(stages(..)): the rows, as lists of their own -/
theorem list_stg {K : PySem.W.Frag} {a b : Addr} {ns : List Int} {ts : List Addr} {cs : List Cmd} {H : Hp} {Q : VK} (hA : SqL K H a (ns.map V.int)) (hB : SqL K H b (ts.map V.ref)) (hC : Cm H ts cs) (hl : cs.length ≤ 100000)
    (k : ∀ (H' : Hp) (p : Addr) (rs : List Addr), Same H H' → H p = none → H' p = some (.lst (rs.map V.ref)) → rs.length = cs.length + 1 → (∀ j c, rs[j]? = some c → H c = none ∧ c ≠ p ∧ H' c = some (.lst ((runM ns (cs.take j)).map V.int))) → Q (.ref p) H') :
    (stgM K a b ns ts cs).n < sizeLine ∧ ∃ Pv : Nat → (stgM K a b ns ts cs).S → List V → Hp → Prop, Pv 0 none [] H ∧ ∀ i q ys H, Pv i q ys H → i ≤ (stgM K a b ns ts cs).n ∧ ys.length = i ∧ (stgM K a b ns ts cs).St i q H ∧
      (i = (stgM K a b ns ts cs).n → ∀ H' p, Same H H' → H' p = none → Q (.ref p) (upd H' p (.lst ys))) ∧ (i < (stgM K a b ns ts cs).n → ∀ x q' H', (stgM K a b ns ts cs).Y i q H x q' H' → Pv (i + 1) q' (ys ++ [x]) H') := by
  refine ⟨Nat.lt_of_le_of_lt (show cs.length + 1 ≤ 100001 by omega) (size_lt (by decide)), fun i q ys H1 => i ≤ cs.length + 1 ∧ Same H H1 ∧ (i = 0 → q = none) ∧ (1 ≤ i → ∃ p, q = some p ∧ H p = none ∧ H1 p = some (.lst ((runM ns (cs.take (i - 1))).map V.int))) ∧
    ∃ rs : List Addr, ys = rs.map V.ref ∧ rs.length = i ∧ ∀ j c, rs[j]? = some c → H c = none ∧ q ≠ some c ∧ H1 c = some (.lst ((runM ns (cs.take j)).map V.int)), ⟨Nat.zero_le _, Same.refl _, fun _ => rfl, fun z => by omega, [], rfl, rfl, fun j c e => by simp at e⟩, fun i q ys H1 p => ?_⟩
  obtain ⟨hi, s, h0, h1, rs, rfl, hrl, hrs⟩ := p
  refine ⟨hi, by rw [List.length_map]; exact hrl, ⟨s.seq hB, hC.same s, fun z => ⟨h0 z, s.seq hA⟩, fun z => ?_⟩, fun ei H2 pl s2 np => ?_, fun hlt x q' H2 hY => ?_⟩
  · obtain ⟨p, e, np, hp⟩ := h1 z
    exact ⟨p, e, hp⟩
  · have ei' : i = cs.length + 1 := ei
    have s3 := s2.trans (same_new (o := .lst (rs.map V.ref)) np)
    refine k _ pl rs (s.trans s3) (s.free (s2.free np)) upd_same (hrl.trans ei') fun j c e => ?_
    obtain ⟨r1, r2, r3⟩ := hrs j c e
    have r4 := s2 _ _ r3
    exact ⟨r1, ne_of_none r4 np, s3 _ _ r3⟩
  · have hlt' : i < cs.length + 1 := hlt
    obtain ⟨p, c, rfl, rfl, hcp, hc, hq0, hq, kb, y1, y2⟩ := hY
    have hpn : H p = none := by
      cases q with
      | none => exact s.free (hq0 rfl)
      | some p0 =>
        obtain ⟨rfl, _⟩ := hq p0 rfl
        have : i ≠ 0 := fun z => by have := h0 z; cases this
        obtain ⟨p2, e, np, _⟩ := h1 (by omega)
        cases e
        exact np
    have keep : ∀ b u, H b = some u → H2 b = some u := fun b u e => kb b u (s _ _ e) fun z => by
      cases q with
      | none => cases z
      | some p0 =>
        cases z
        obtain ⟨rfl, _⟩ := hq _ rfl
        rw [hpn] at e; cases e
    refine ⟨by omega, keep, fun z => by omega, fun _ => ⟨p, rfl, hpn, y1⟩, rs ++ [c], by rw [List.map_append]; rfl, by rw [List.length_append, hrl]; rfl, fun j c1 e => ?_⟩
    by_cases hj : j < rs.length
    · rw [List.getElem?_append_left hj] at e
      obtain ⟨r1, r2, r3⟩ := hrs j c1 e
      refine ⟨r1, fun z => ?_, kb _ _ r3 r2⟩
      cases z
      cases q with
      | none => have := hq0 rfl; rw [r3] at this; cases this
      | some p0 =>
        obtain ⟨rfl, _⟩ := hq p0 rfl
        exact r2 rfl
    · rw [List.getElem?_append_right (by omega)] at e
      have e3 : j = i := by
        cases hh : j - rs.length with
        | zero => omega
        | succ k => rw [hh] at e; simp at e
      subst e3
      rw [show j - rs.length = 0 by omega] at e
      cases e
      exact ⟨s.free hc, fun z => hcp (by cases z; rfl), y2⟩
def spg_stages (K : PySem.W.Frag) (T : Txt K mg) : SpX := fun vs H E => ∃ (a b : Addr) (ns : List Int) (ts : List Addr) (ws : List Pr) (cy : Addr × V), vs = [.ref a, .ref b] ∧ SqL K H a (ns.map V.int) ∧ SqL K H b (ts.map V.ref) ∧ Cw H ts ws ∧ BadRun T ns.length ws cy.1 cy.2 ∧ Err H E cy.1 cy.2
theorem okgx_stages (T : Txt K mg) : GFnX P w K mg base 5 T.stages_a T.stages_d ["row", "commands"] (spg_stages K T) := by
  refine okGX T.stages_F sc_stages (fun vs H E h => ?_) rfl (fun cdv A ou t H vs E pn hG hr h => ?_)
  · obtain ⟨_, _, _, _, _, _, rfl, _⟩ := h; rfl
  have nd := sc_stages.nd
  obtain ⟨a, b, ns, ts, ws, cy, rfl, hA, hS, hC, bd, q⟩ := h
  refine ⟨_, (ps_expr (pe_callX ((ok_check_sized_script T).lift.or (okx_check_sized_script T)) hG (hr.mono (by decide)) (by rfl) T.check_sized_script_g T.check_sized_script_F.kp T.check_sized_script_b takes_gcxN (pa_cons (pe_callB (lenK K) (by rfl) T.m_len PySem.boot_len (pa_cons (pv 0) pa_nil)) (pa_cons (pv 1) pa_nil)))), ?_⟩
  fail "ww"
  exact .inr ⟨_, b, ts, ws, cy, rfl, hS, hC, by rw [List.length_map]; exact bd, q⟩
theorem dRun_cases (T : Txt K mg) (n : Nat) (ws : List Pr) : (∃ (c : Addr) (j : Nat) (y : V), BadRun T n ws c y ∧ PySem.W.exmOne K (.ref c) (.ref T.SortError_a) = some true ∧ Kq K T c j ∧ NoSt K (.ref c) ∧ dRun n ws = some (j, y)) ∨ (1 ≤ n ∧ dRun n ws = none ∧ ∃ cs : List Cmd, Fits n cs ∧ ws = cs.map toW) := by
  by_cases hn : n < 1
  · exact .inl ⟨_, _, _, .inl ⟨by omega, rfl, rfl⟩, T.InvalidSize_E.te, kq_size T, T.InvalidSize_st, by unfold dRun; rw [if_pos hn]⟩
  · rcases first_cases (wrW n ws) ws.length with ⟨i, e, _⟩ | ⟨e, _⟩
    · have e : eW n ws = some i := e
      exact .inl ⟨_, _, _, .inr ⟨by omega, i, e, rfl, rfl⟩, T.InvalidCommand_E.te, kq_command T, T.InvalidCommand_st, by unfold dRun; rw [if_neg hn, e]⟩
    · have e : eW n ws = none := e
      obtain ⟨cs, hf, ew⟩ := fits_cmds (n := n) (eW_fits e)
      exact .inr ⟨by omega, by unfold dRun; rw [if_neg hn, e], cs, hf, ew⟩
theorem dMost_cases (T : Txt K mg) (ns ms : List Int) : (∃ (c : Addr) (j : Nat) (y : V), BadMost T ns ms c y ∧ PySem.W.exmOne K (.ref c) (.ref T.SortError_a) = some true ∧ Kq K T c j ∧ dMost ns ms = some (j, y)) ∨ (IsArr ns ∧ IsArr ms ∧ ns.length = ms.length ∧ dMost ns ms = none) := by
  rcases first_cases (wrR ns) ns.length with ⟨i, e, _⟩ | ⟨e, _⟩
  · have e : eR ns = some i := e
    exact .inl ⟨_, _, _, .inl ⟨i, e, rfl, rfl⟩, T.InvalidRow_E.te, kq_row T, by unfold dMost; rw [e]⟩
  · have e : eR ns = none := e
    rcases first_cases (wrR ms) ms.length with ⟨i, e2, _⟩ | ⟨e2, _⟩
    · have e2 : eR ms = some i := e2
      exact .inl ⟨_, _, _, .inr (.inl ⟨e, i, e2, rfl, rfl⟩), T.InvalidRow_E.te, kq_row T, by unfold dMost; rw [e, e2]⟩
    · have e2 : eR ms = none := e2
      by_cases hl : ns.length = ms.length
      · exact .inr ⟨eR_arr e, eR_arr e2, hl, by unfold dMost; rw [e, e2]; exact if_pos hl⟩
      · exact .inl ⟨_, _, _, .inr (.inr ⟨e, e2, hl, rfl, rfl⟩), T.UnequalSizes_E.te, kq_unequal T, by unfold dMost; rw [e, e2]; exact if_neg hl⟩
def sp_law_told (K : PySem.W.Frag) (_T : Txt K mg) : Sp := fun vs H Q _ => ∃ (way : Nat) (a b : Addr) (ns : List Int) (_u : Unit), vs = [.int way, .ref a, .ref b] ∧ SqL K H a (ns.map V.int) ∧ ns.length ≤ 1000 ∧
  ((way ≤ 2 ∧ ∃ (ts : List Addr) (ws : List Pr), SqL K H b (ts.map V.ref) ∧ Cw H ts ws ∧ ws.length ≤ 100000 ∧ ∀ (H' : Hp) (v : V), Same H H' → Ans H H' v (dRun ns.length ws) → Q v H') ∨
   ((way = 3 ∨ way = 4) ∧ ∃ ms : List Int, SqL K H b (ms.map V.int) ∧ ms.length ≤ 1000 ∧ 1 ≤ ns.length ∧ ∀ (H' : Hp) (v : V), Same H H' → Ans H H' v (dMost ns ms) → Q v H'))
theorem ok_law_told (T : Txt K mg) : FnG P w K mg base CX0 9 T.law_told_a T.law_told_d ["way", "one", "other"] (sp_law_told K T) := by
  refine okG T.law_told_F sc_law_told (fun vs H Q E h => ?_) (fun cdv A ou t H vs Q E hG hr h => ?_)
  · obtain ⟨_, _, _, _, _, rfl, _⟩ := h; rfl
  have nd := sc_law_told.nd
  obtain ⟨way, a, b, ns, _, rfl, hA, hnl, hd⟩ := h
  refine ⟨_, (pss_cons (sset 3 nd pe_non)
      (pss_hold (i := 4) rfl rfl nd rfl rfl ⟨rfl, by decide, .inl T.SortError_g⟩ takesN0 (fun W pn xe tk po => (pss_one (ps_if (pt_cmpR op_eq (pv 0) pe_int (nomark _))
        (pss_one (ps_expr (pe_callX ((ok_run T).lift.or (okx_run T)) hG (hr.mono (by decide)) (by rfl) T.run_g T.run_F.kp T.run_b tk (pa_cons (pv 1) (pa_cons (pv 2) pa_nil)))))
        (pss_one (ps_if (pt_cmpR op_eq (pv 0) pe_int (nomark _))
        (pss_one (ps_expr (pe_callXK0 ((ok_run T).lift.or (okx_run T)) hG (hr.mono (by decide)) (by rfl) T.run_g T.run_F.kp T.k_run_commands_row tk (pk_cons (pv 2) (pk_cons (pv 1) pk_nil)))))
        (pss_one (ps_if (pt_cmpR op_eq (pv 0) pe_int (nomark _))
        (pss_one (ps_expr (pe_either (pe_listV (k := 5) rfl hG (hr.mono (j := 8) (by decide)) (pgen_call (k := 5) (okv_stages T) (hr.mono (j := 5) (by decide)) (by rfl) T.stages_g T.stages_F.kp T.stages_b (pa_cons (pv 1) (pa_cons (pv 2) pa_nil))) (by rfl) T.m_list (by decide +kernel)) (pe_listXK K (k := 5) (okgx_stages T) hG (hr.mono (j := 8) (by decide)) (by rfl) T.stages_g T.stages_F.kp T.stages_b tk (pa_cons (pv 1) (pa_cons (pv 2) pa_nil)) (by rfl) T.m_list (by decide +kernel)))))
        (pss_one (ps_if (pt_cmpR op_eq (pv 0) pe_int (nomark _))
        (pss_one (ps_expr (pe_callX ((ok_is_at_most T).lift.or (okx_is_at_most T)) hG (hr.mono (by decide)) (by rfl) T.is_at_most_g T.is_at_most_F.kp T.is_at_most_b tk (pa_cons (pv 1) (pa_cons (pv 2) pa_nil)))))
        (pss_one (ps_expr (pe_callXK0 ((ok_is_at_most T).lift.or (okx_is_at_most T)) hG (hr.mono (by decide)) (by rfl) T.is_at_most_g T.is_at_most_F.kp T.k_is_at_most_second_first tk (pk_cons (pv 2) (pk_cons (pv 1) pk_nil))))))))))))))
        (fun a oe cls d pn hz hf => (pss_one (sset 3 nd (pv 4))))
        (pss_one (ps_ret (pe_ifExp (pt_cmpR op_isN (pv 3) pe_non (nomark _)) pe_non pe_never)))
        (fun a oe cls d hz hf => (pss_one (ps_ret (pe_ifExp (pt_cmpR op_isN (pv 3) pe_non (nomark _)) pe_non (pe_callEH (okE_law_kind T) hz hf hG (hr.mono (by decide)) (by rfl) T.law_kind_g T.law_kind_F.kp T.law_kind_b (pa_cons (pv 3) pa_nil)))))))), ?_⟩
  have fin : ∀ (c : Addr) (j : Nat) (y : V) (o : Option (Nat × V)), PySem.W.exmOne K (.ref c) (.ref T.SortError_a) = some true → Kq K T c j → o = some (j, y) → (∀ (H' : Hp) (v : V), Same H H' → Ans H H' v o → Q v H') →
      Err H (fun cls d H' => wHold K (.ref T.SortError_a) 4 (fun a cls d => tAsg (tVar 4) (gName 3)) (fun a cls d => tRet (tIf (tTest (tOp (fun x y H Q => y = V.non ∧ Q (V.bl (decide (x = V.non))) H) (tVar 3) (tC V.non))) (tC V.non) (tCallE (spe_law_kind K T a cls d) (tCons (tVar 3) tNil)))) (fun _ _ _ _ => False) { nx := fun _ H' => Q V.non H', rt := Q } cls d
        [some (.int way), some (.ref a), some (.ref b), some .non, none] H') c y := fun c j y o te kd eo k H' d s hd' => by
    refine ⟨true, te, fun _ x hx => ?_, fun z => by cases z⟩
    fail "ww"
    refine ⟨rfl, ?_⟩
    fail "ww"
    rw [decide_eq_false (show ¬ V.ref x = V.non from fun z => by cases z)]
    fail "ww"
    refine ⟨c, d, j, y, (), rfl, rfl, rfl, upd_same, kd, fun H2 p s2 np hp => ?_⟩
    exact k _ _ ((s.trans (same_new hd')).trans s2) (.inr ⟨p, j, y, eo, rfl, s.free ((same_new hd').free np), hp⟩)
  have none_ : ∀ (o : Option (Nat × V)), o = none → (∀ (H' : Hp) (v : V), Same H H' → Ans H H' v o → Q v H') → ∀ H', Same H H' → Q .non H' := fun o eo k H' s => k H' _ s (.inl ⟨eo, rfl⟩)
  fail "ww"
  rcases hd with ⟨hw, ts, ws, hB, hC, hwl, k⟩ | ⟨hw, ms, hB, hml, hn1, k⟩
  · refine r_dec (fun g => ?_) (fun g => ?_)
    · have g0 : way = 0 := by omega
      subst g0
      fail "ww"
      rcases dRun_cases (K := K) T ns.length ws with ⟨c, j, y, bd, te, kd, st, e⟩ | ⟨hn1, e, cs, hf, ew⟩
      · exact .inr ⟨a, b, ns, ts, ws, (c, y), rfl, hA, hB, hC, bd, fin c j y _ te kd e k⟩
      · have e3 := none_ _ e k
        refine .inl ⟨a, b, ns, ts, cs, rfl, hA, hB, (ew ▸ hC).toCm, hn1, hnl, hf, fun H1 p s1 np hp => ?_⟩
        fail "ww"
        refine ⟨rfl, ?_⟩
        fail "ww"
        rw [decide_eq_true (rfl : V.non = V.non)]
        fail "ww"
        exact e3 _ s1
    fail "ww"
    refine r_dec (fun g1 => ?_) (fun g1 => ?_)
    · have g0 : way = 1 := by omega
      subst g0
      fail "ww"
      rcases dRun_cases (K := K) T ns.length ws with ⟨c, j, y, bd, te, kd, st, e⟩ | ⟨hn1, e, cs, hf, ew⟩
      · exact .inr ⟨a, b, ns, ts, ws, (c, y), rfl, hA, hB, hC, bd, fin c j y _ te kd e k⟩
      · have e3 := none_ _ e k
        refine .inl ⟨a, b, ns, ts, cs, rfl, hA, hB, (ew ▸ hC).toCm, hn1, hnl, hf, fun H1 p s1 np hp => ?_⟩
        fail "ww"
        refine ⟨rfl, ?_⟩
        fail "ww"
        rw [decide_eq_true (rfl : V.non = V.non)]
        fail "ww"
        exact e3 _ s1
    fail "ww"
    refine r_dec (fun g2 => ?_) (fun g2 => by omega)
    have g0 : way = 2 := by omega
    subst g0
    fail "ww"
    rcases dRun_cases (K := K) T ns.length ws with ⟨c, j, y, bd, te, kd, st, e⟩ | ⟨hn1, e, cs, hf, ew⟩
    · refine .inr ?_
      fail "ww"
      exact ⟨a, b, ns, ts, ws, (c, y), rfl, hA, hB, hC, bd, fun H' d s hd' => ⟨st, fin c j y _ te kd e k H' d s hd'⟩⟩
    · have e3 := none_ _ e k
      refine .inl ?_
      fail "ww"
      have hM := (ew ▸ hC : Cw H ts (cs.map toW)).toCm
      have hcl : cs.length ≤ 100000 := by rw [ew, List.length_map] at hwl; exact hwl
      obtain ⟨z1, Pv, z2, z3⟩ := list_stg (Q := fun _ H' => Same H H') hA hB hM hcl fun _ _ _ s1 _ _ _ _ => s1
      refine ⟨a, b, ns, ts, cs, rfl, hn1, hnl, hM.len, hcl, hf, z1, Pv, z2, fun i q ys H1 pv => ?_⟩
      obtain ⟨y1, y2, y3, y4, y5⟩ := z3 i q ys H1 pv
      refine ⟨y1, y2, y3, fun ei H2 p s2 np => ?_, y5⟩
      have s3 := y4 ei H2 p s2 np
      fail "ww"
      refine ⟨rfl, ?_⟩
      fail "ww"
      rw [decide_eq_true (rfl : V.non = V.non)]
      fail "ww"
      exact e3 _ s3
  · refine r_dec (fun g => by omega) (fun g => ?_)
    fail "ww"
    refine r_dec (fun g => by omega) (fun g => ?_)
    fail "ww"
    refine r_dec (fun g => by omega) (fun g => ?_)
    fail "ww"
    refine r_dec (fun g3 => ?_) (fun g3 => ?_)
    · have g0 : way = 3 := by omega
      subst g0
      fail "ww"
      rcases dMost_cases (K := K) T ns ms with ⟨c, j, y, bd, te, kd, e⟩ | ⟨h1, h2, h3, e⟩
      · exact .inr ⟨a, b, ns, ms, (c, y), rfl, hA, hB, hnl, hml, bd, fin c j y _ te kd e k⟩
      · have e3 := none_ _ e k
        refine .inl ⟨a, b, ns, ms, rfl, hA, hB, h1, h2, h3, hn1, hnl, fun H1 s1 => ?_⟩
        fail "ww"
        refine ⟨rfl, ?_⟩
        fail "ww"
        rw [decide_eq_true (rfl : V.non = V.non)]
        fail "ww"
        exact e3 _ s1
    · have g0 : way = 4 := by omega
      subst g0
      fail "ww"
      rcases dMost_cases (K := K) T ns ms with ⟨c, j, y, bd, te, kd, e⟩ | ⟨h1, h2, h3, e⟩
      · exact .inr ⟨a, b, ns, ms, (c, y), rfl, hA, hB, hnl, hml, bd, fin c j y _ te kd e k⟩
      · have e3 := none_ _ e k
        refine .inl ⟨a, b, ns, ms, rfl, hA, hB, h1, h2, h3, hn1, hnl, fun H1 s1 => ?_⟩
        fail "ww"
        refine ⟨rfl, ?_⟩
        fail "ww"
        rw [decide_eq_true (rfl : V.non = V.non)]
        fail "ww"
        exact e3 _ s1
def sp_law_first (K : PySem.W.Frag) : Sp := fun vs H Q _ => ∃ (a b : Addr) (ns : List Int) (ts : List Addr) (ws : List Pr), vs = [.ref a, .ref b] ∧ SqL K H a (ns.map V.int) ∧ ns.length ≤ 1000 ∧
  SqL K H b (ts.map V.ref) ∧ Cw H ts ws ∧ ws.length ≤ 100000 ∧ ∀ (H' : Hp) (v : V), Same H H' → Ans H H' v (dRun ns.length ws) → Q v H'
theorem ok_law_first (T : Txt K mg) : FnG P w K mg base CX0 9 T.law_first_a T.law_first_d ["one", "other"] (sp_law_first K) := by
  refine okG T.law_first_F sc_law_first (fun vs H Q E h => ?_) (fun cdv A ou t H vs Q E hG hr h => ?_)
  · obtain ⟨_, _, _, _, _, rfl, _⟩ := h; rfl
  have nd := sc_law_first.nd
  obtain ⟨a, b, ns, ts, ws, rfl, hA, hnl, hB, hC, hwl, k⟩ := h
  refine ⟨_, (pss_cons (L2N.ps_try_as (i := 3) rfl rfl nd rfl rfl ⟨rfl, by decide, .inl T.SortError_g⟩ takesN0 (fun W pn xe tk po => (pss_one (ps_either (ps_forV (k := 5) rfl hG (hr.mono (j := 6) (by decide)) (pgen_call (k := 5) (okv_stages T) (hr.mono (j := 5) (by decide)) (by rfl) T.stages_g T.stages_F.kp T.stages_b (pa_cons (pv 0) (pa_cons (pv 1) pa_nil))) (gset 2 nd)
        (pss_one (ps_ret pe_non)))
        (ps_forXK K (k := 5) (okgx_stages T) po hG (hr.mono (j := 6) (by decide)) (by rfl) T.stages_g T.stages_F.kp T.stages_b tk (pa_cons (pv 0) (pa_cons (pv 1) pa_nil))))))
        (fun a oe cls d pn hz hf => (pss_one (ps_ret (pe_callES (okE_law_kind T) hz hf hG (hr.mono (by decide)) (by rfl) T.law_kind_g T.law_kind_F.kp T.law_kind_b (pa_cons (pv 3) pa_nil))))))
      (pss_one (ps_ret pe_str))), ?_⟩
  fail "ww"
  rcases dRun_cases (K := K) T ns.length ws with ⟨c, j, y, bd, te, kd, st, e⟩ | ⟨hn1, e, cs, hf, ew⟩
  · refine .inr ?_
    fail "ww"
    refine ⟨a, b, ns, ts, ws, (c, y), rfl, hA, hB, hC, bd, fun H' d s hd' => ⟨st, ?_⟩⟩
    refine ⟨true, te, fun _ x hx => ?_, fun z => by cases z⟩
    fail "ww"
    refine ⟨c, d, j, y, (), rfl, rfl, rfl, upd_same, kd, fun H2 p s2 np hp => ?_⟩
    fail "ww"
    exact k _ _ ((s.trans (same_new hd')).trans s2) (.inr ⟨p, j, y, e, rfl, s.free ((same_new hd').free np), hp⟩)
  · have hM := (ew ▸ hC : Cw H ts (cs.map toW)).toCm
    have hcl : cs.length ≤ 100000 := by rw [ew, List.length_map] at hwl; exact hwl
    refine .inl ?_
    fail "ww"
    refine ⟨a, b, ns, ts, cs, rfl, hn1, hnl, hM.len, hcl, hf, fun i q σ' H' => i = 0 ∧ q = none ∧ H' = H ∧ σ' = L2.start ["one", "other", "present", "e"] [V.ref a, V.ref b], ⟨rfl, rfl, rfl, rfl⟩, fun i q σ' H' pv => ?_⟩
    obtain ⟨rfl, rfl, rfl, rfl⟩ := pv
    refine ⟨Nat.zero_le _, ⟨hB, hM, fun _ => ⟨rfl, hA⟩, fun z => by omega⟩, fun z => ?_, fun _ x q' H1 hY => ?_⟩
    · have : 0 = cs.length + 1 := z
      omega
    · obtain ⟨p, c, rfl, rfl, _, _, _, _, kb, _⟩ := hY
      fail "ww"
      exact k _ _ (fun b u e => kb b u e (fun z => by cases z)) (.inl ⟨e, rfl⟩)
def sp_law (K : PySem.W.Frag) : Sp := fun vs H Q _ => ∃ (a : Addr) (ns : List Int), vs = [.ref a] ∧ SqL K H a (ns.map V.int) ∧ ns.length ≤ 63 ∧ ∀ H', Q (.bl true) H'
theorem ok_law (T : Txt K mg) : FnG P w K mg base CX0 10 T.law_a T.law_d ["script"] (sp_law K) := by
  refine okG T.law_F sc_law (fun vs H Q E h => ?_) (fun cdv A ou t H vs Q E hG hr h => ?_)
  · obtain ⟨_, _, rfl, _⟩ := h; rfl
  have nd := sc_law.nd
  obtain ⟨a, ns, rfl, hS, hlen, q⟩ := h
  refine ⟨_, (pss_cons (sset 1 nd (pe_callG (ok_law_rng T) hG (hr.mono (by decide)) (by rfl) T.law_rng_g T.law_rng_F.kp T.law_rng_b .nil pass0 (pa_cons (pv 0) pa_nil)))
      (pss_cons (ps_for PassesOwn.never rfl (pi_range1 (by rfl) T.m_range (pa_cons (pe_op op_add pe_int (pe_callB (call_min2 rfl) (by rfl) T.m_min (by decide +kernel) (pa_cons pe_int (pa_cons (pe_callB (lenK K) (by rfl) T.m_len PySem.boot_len (pa_cons (pv 0) pa_nil)) pa_nil)))) pa_nil)) (gset 2 nd)
        (pss_cons (sset 3 nd (pe_op op_add pe_int (pe_callG (ok_law_draw T) hG (hr.mono (by decide)) (by rfl) T.law_draw_g T.law_draw_F.kp T.law_draw_b .nil pass0 (pa_cons (pv 1) (pa_cons (pe_ix (ix_listK K) (pe_lst (pa_cons pe_int (pa_cons pe_int pa_nil))) (pe_callG (ok_law_draw T) hG (hr.mono (by decide)) (by rfl) T.law_draw_g T.law_draw_F.kp T.law_draw_b .nil pass0 (pa_cons (pv 1) (pa_cons pe_int pa_nil))) (fun _ _ => rfl)) pa_nil)))))
      (pss_cons (sset 4 nd (pe_callG (ok_law_arranged T) hG (hr.mono (by decide)) (by rfl) T.law_arranged_g T.law_arranged_F.kp T.law_arranged_b .nil pass0 (pa_cons (pv 1) (pa_cons (pv 3) pa_nil))))
      (pss_cons (ps_asg (pe_callG (ok_law_bad_commands T) hG (hr.mono (by decide)) (by rfl) T.law_bad_commands_g T.law_bad_commands_F.kp T.law_bad_commands_b .nil pass0 (pa_cons (pv 1) (pa_cons (pv 3) (pa_cons (pe_callG (ok_law_commands T) hG (hr.mono (by decide)) (by rfl) T.law_commands_g T.law_commands_F.kp T.law_commands_b .nil pass0 (pa_cons (pv 1) (pa_cons (pv 3) (pa_cons (pe_ix (ix_listK K) (pe_lst (pa_cons pe_int (pa_cons pe_int pa_nil))) (pe_callG (ok_law_draw T) hG (hr.mono (by decide)) (by rfl) T.law_draw_g T.law_draw_F.kp T.law_draw_b .nil pass0 (pa_cons (pv 1) (pa_cons pe_int pa_nil))) (fun _ _ => rfl)) pa_nil)))) pa_nil)))) (pg_unlK K 2 rfl (pgs_cons (gset 5 nd) (pgs_cons (gset 6 nd) pgs_nil))))
      (pss_cons (ps_par (i := 7) (j := 8) (by rfl) nd rfl rfl (by decide) rfl rfl (pa_cons (pe_callB (reprK K hG hr.units) (by rfl) T.m_repr (by decide +kernel) (pa_cons (pe_lst (pa_cons (pv 4) (pa_cons (pv 5) pa_nil))) pa_nil)) (pa_cons (pe_ifExp (pt_cmpR op_notN (pv 6) pe_non (nomark _)) (pe_lst (pa_cons pe_str (pa_cons (pv 6) pa_nil))) pe_non) pa_nil)) (by rfl))
      (pss_cons (ps_setLc (i := 9) (hy := rfl) (hyl := rfl) (hsw := sw_true rfl rfl rfl (by decide +kernel)) (own := [("way", 15)]) (hc := rfl) (hN := nd) (hi := (pi_range1 (by rfl) T.m_range (pa_cons pe_int pa_nil))) (ok := blkOk_by (by rfl)) (hg := fun _ _ _ _ _ => (gset 15 nd)) (ht := (fun _ _ _ _ _ => pts_nil)) (he := fun _ _ _ _ _ => (pe_callG (ok_law_told T) hG (hr.mono (by decide)) (by rfl) T.law_told_g T.law_told_F.kp T.law_told_b .nil pass0 (pa_cons (pv 15) (pa_cons (pv 4) (pa_cons (pv 5) pa_nil))))))
      (pss_cons (ps_if (PW.pt (pw_or (pt_cmpR op_ne (pe_callB (reprK K hG hr.units) (by rfl) T.m_repr (by decide +kernel) (pa_cons (pe_op op_cat (pv 9) (pe_lst (pa_cons (pe_callG (ok_law_first T) hG (hr.mono (by decide)) (by rfl) T.law_first_g T.law_first_F.kp T.law_first_b .nil pass0 (pa_cons (pv 4) (pa_cons (pv 5) pa_nil))) pa_nil))) pa_nil)) (pe_callB (reprK K hG hr.units) (by rfl) T.m_repr (by decide +kernel) (pa_cons (pe_op op_rep (pe_lst (pa_cons (pv 8) pa_nil)) pe_int) pa_nil)) (nomark _)) (pw_or1 (pt_cmpR op_ne (pe_callB (reprK K hG hr.units) (by rfl) T.m_repr (by decide +kernel) (pa_cons (pe_lst (pa_cons (pv 4) (pa_cons (pv 5) pa_nil))) pa_nil)) (pv 7) (nomark _)))))
        (pss_one (ps_ret pe_bl))
        pss_nil)
      (pss_cons (ps_if (pt_cmpR op_ne (pe_callB (reprK K hG hr.units) (by rfl) T.m_repr (by decide +kernel) (pa_cons (pe_op op_cat (pe_lc (own := [("way", 15)]) (hc := rfl) (hN := nd) (hi := (pi_range1 (by rfl) T.m_range (pa_cons pe_int pa_nil))) (ok := blkOk_by (by rfl)) (hg := fun _ _ _ _ _ => (gset 15 nd)) (ht := (fun _ _ _ _ _ => pts_nil)) (he := fun _ _ _ _ _ => (pe_callG (ok_law_told T) hG (hr.mono (by decide)) (by rfl) T.law_told_g T.law_told_F.kp T.law_told_b .nil pass0 (pa_cons (pv 15) (pa_cons (pe_lst pa_nil) (pa_cons (pv 5) pa_nil)))))) (pe_lst (pa_cons (pe_callG (ok_law_first T) hG (hr.mono (by decide)) (by rfl) T.law_first_g T.law_first_F.kp T.law_first_b .nil pass0 (pa_cons (pe_lst pa_nil) (pa_cons (pv 5) pa_nil))) pa_nil))) pa_nil)) (pe_callB (reprK K hG hr.units) (by rfl) T.m_repr (by decide +kernel) (pa_cons (pe_op op_rep (pe_lst (pa_cons (pe_lst (pa_cons pe_str (pa_cons pe_int pa_nil))) pa_nil)) pe_int) pa_nil)) (nomark _))
        (pss_one (ps_ret pe_bl))
        pss_nil)
      (pss_cons (ps_asg (pe_callG (ok_law_bad_row T) hG (hr.mono (by decide)) (by rfl) T.law_bad_row_g T.law_bad_row_F.kp T.law_bad_row_b .nil pass0 (pa_cons (pv 1) (pa_cons (pv 4) pa_nil))) (pg_unlK K 2 rfl (pgs_cons (gset 10 nd) (pgs_cons (gset 11 nd) pgs_nil))))
      (pss_cons (sset 12 nd (pe_ix (ix_listK K) (pe_lst (pa_cons (pv 3) (pa_cons (pe_op op_add pe_int (pe_callG (ok_law_draw T) hG (hr.mono (by decide)) (by rfl) T.law_draw_g T.law_draw_F.kp T.law_draw_b .nil pass0 (pa_cons (pv 1) (pa_cons pe_int pa_nil)))) pa_nil))) (pe_callG (ok_law_draw T) hG (hr.mono (by decide)) (by rfl) T.law_draw_g T.law_draw_F.kp T.law_draw_b .nil pass0 (pa_cons (pv 1) (pa_cons pe_int pa_nil))) (fun _ _ => rfl)))
      (pss_cons (ps_asg (pe_callG (ok_law_bad_row T) hG (hr.mono (by decide)) (by rfl) T.law_bad_row_g T.law_bad_row_F.kp T.law_bad_row_b .nil pass0 (pa_cons (pv 1) (pa_cons (pe_callG (ok_law_arranged T) hG (hr.mono (by decide)) (by rfl) T.law_arranged_g T.law_arranged_F.kp T.law_arranged_b .nil pass0 (pa_cons (pv 1) (pa_cons (pv 12) pa_nil))) pa_nil))) (pg_unlK K 2 rfl (pgs_cons (gset 13 nd) (pgs_cons (gset 14 nd) pgs_nil))))
      (pss_cons (sset 8 nd (pe_ifExp (pt_cmpR op_ne (pv 12) (pv 3) (nomark _)) (pe_lst (pa_cons pe_str (pa_cons pe_non pa_nil))) pe_non))
      (pss_cons (sset 8 nd (pe_ifExp (pt_cmpR op_notN (pv 14) pe_non (nomark _)) (pe_lst (pa_cons pe_str (pa_cons (pv 14) pa_nil))) (pv 8)))
      (pss_cons (sset 8 nd (pe_ifExp (pt_cmpR op_notN (pv 11) pe_non (nomark _)) (pe_lst (pa_cons pe_str (pa_cons (pv 11) pa_nil))) (pv 8)))
      (pss_cons (sset 7 nd (pe_callB (reprK K hG hr.units) (by rfl) T.m_repr (by decide +kernel) (pa_cons (pe_lst (pa_cons (pv 10) (pa_cons (pv 13) pa_nil))) pa_nil)))
      (pss_cons (ps_if (PW.pt (pw_or (pt_cmpR op_ne (pe_callB (reprK K hG hr.units) (by rfl) T.m_repr (by decide +kernel) (pa_cons (pe_lc (own := [("way", 15)]) (hc := rfl) (hN := nd) (hi := (pi_tupK K (pe_tup (pa_cons pe_int (pa_cons pe_int pa_nil))))) (ok := blkOk_by (by rfl)) (hg := fun _ _ _ _ _ => (gset 15 nd)) (ht := (fun _ _ _ _ _ => pts_nil)) (he := fun _ _ _ _ _ => (pe_callG (ok_law_told T) hG (hr.mono (by decide)) (by rfl) T.law_told_g T.law_told_F.kp T.law_told_b .nil pass0 (pa_cons (pv 15) (pa_cons (pv 10) (pa_cons (pv 13) pa_nil)))))) pa_nil)) (pe_callB (reprK K hG hr.units) (by rfl) T.m_repr (by decide +kernel) (pa_cons (pe_lst (pa_cons (pv 8) (pa_cons (pv 8) pa_nil))) pa_nil)) (nomark _)) (pw_or1 (pt_cmpR op_ne (pe_callB (reprK K hG hr.units) (by rfl) T.m_repr (by decide +kernel) (pa_cons (pe_lst (pa_cons (pv 10) (pa_cons (pv 13) pa_nil))) pa_nil)) (pv 7) (nomark _)))))
        (pss_one (ps_ret pe_bl))
        pss_nil)
      (pss_one (ps_if (PW.pt (pw_or (pt_cmpR op_lt (pe_callG (ok_inversions T) hG (hr.mono (by decide)) (by rfl) T.inversions_g T.inversions_F.kp T.inversions_b .nil pass0 (pa_cons (pv 10) pa_nil)) pe_int (nomark _)) (pw_or1 (pt_not (pt_val (pe_callG (ok_law_built_right T) hG (hr.mono (by decide)) (by rfl) T.law_built_right_g T.law_built_right_F.kp T.law_built_right_b .nil pass0 (pa_cons (pe_ix (ix_listK K) (pe_lst (pa_cons (pv 3) (pa_cons pe_non (pa_cons (pe_op op_sub pe_int (pv 3)) (pa_cons pe_str pa_nil))))) (pe_callG (ok_law_draw T) hG (hr.mono (by decide)) (by rfl) T.law_draw_g T.law_draw_F.kp T.law_draw_b .nil pass0 (pa_cons (pv 1) (pa_cons pe_int pa_nil))) (fun _ _ => rfl)) pa_nil)))))))
        (pss_one (ps_ret pe_bl))
        pss_nil))))))))))))))))))
      (pss_one (ps_ret (pe_and (pe_cmpR (eqDK K hr.units) (pe_callG (ok_law_told T) hG (hr.mono (by decide)) (by rfl) T.law_told_g T.law_told_F.kp T.law_told_b .nil pass0 (pa_cons pe_int (pa_cons (pe_lst (pa_cons pe_int pa_nil)) (pa_cons (pe_lst (pa_cons (pe_tup (pa_cons pe_int (pa_cons pe_int pa_nil))) (pa_cons (pe_tup (pa_cons pe_int (pa_cons pe_int pa_nil))) pa_nil))) pa_nil)))) (pe_lst (pa_cons pe_str (pa_cons pe_int pa_nil))) (nomark _)) (pe_one (pe_cmpR (eqDK K hr.units) (pe_callG (ok_law_told T) hG (hr.mono (by decide)) (by rfl) T.law_told_g T.law_told_F.kp T.law_told_b .nil pass0 (pa_cons pe_int (pa_cons (pe_lst (pa_cons pe_int (pa_cons pe_int pa_nil))) (pa_cons (pe_lst (pa_cons pe_int pa_nil)) pa_nil)))) (pe_lst (pa_cons pe_str (pa_cons pe_int pa_nil))) (nomark _)))))))), ?_⟩
  fail "ww"
  refine ⟨a, ns, rfl, hS, hlen, fun H1 r s1 hr0 hR => ?_⟩
  fail "ww"
  rw [List.length_map]
  obtain ⟨n, hn, hn2⟩ : ∃ n : Nat, (10 + (if ((ns.length : Nat) : Int) < 16 then ((ns.length : Nat) : Int) else 16)) = (n : Int) ∧ n ≤ 26 := by
    split
    · exact ⟨10 + ns.length, by omega, by omega⟩
    · exact ⟨26, by omega, by omega⟩
  rw [hn]
  refine ⟨by omega, by omega, ?_⟩
  refine forF walk_range (fun i σ' H' => ∃ y2 y3 y4 y5 y6 y7 y8 y9 y10 y11 y12 y13 y14 y15, σ' = [some (.ref a), some (.ref r), y2, y3, y4, y5, y6, y7, y8, y9, y10, y11, y12, y13, y14, y15] ∧ Rng H' r (2000 * i))
    ⟨none, none, none, none, none, none, none, none, none, none, none, none, none, none, rfl, hR⟩ (fun _ _ _ _ _ => trivial) (fun i σ' H' hi p => ?_) (fun σ' H' p => ?_)
  · clear hR
    obtain ⟨y2, y3, y4, y5, y6, y7, y8, y9, y10, y11, y12, y13, y14, y15, rfl, hR0⟩ := p
    have hi26 : i < 26 := by omega
    fail "ww"
    refine new_ fun l0 H2 n0 s2 h0 => ?_
    fail "ww"
    have hR2 := hR0.same s2
    have hlr := hR0.ne n0
    refine ⟨r, 2, _, rfl, hR2, by omega, by decide, by decide, fun H3 d0 hd00 hd01 s3 hR3 => ?_⟩
    obtain ⟨top, hat, ht1, ht2⟩ : ∃ top : Nat, atI [V.int 5, V.int 30] d0 = some (.int (top : Int)) ∧ 1 ≤ top ∧ top ≤ 30 := by
      have : d0 = 0 ∨ d0 = 1 := by omega
      rcases this with e | e <;> subst e
      · exact ⟨5, rfl, by decide, by decide⟩
      · exact ⟨30, rfl, by decide, by decide⟩
    refine r_ixL (sq (s3 _ _ hlr h0)) hat ?_
    fail "ww"
    refine ⟨r, _, _, rfl, hR3, by omega, by omega, by omega, fun H4 d1 hd10 hd11 s4 hR4 => ?_⟩
    fail "ww"
    obtain ⟨wide, hwd, hw1, hw2⟩ : ∃ w : Nat, 1 + d1 = (w : Int) ∧ 1 ≤ w ∧ w ≤ 30 := ⟨(1 + d1).toNat, by omega, by omega, by omega⟩
    rw [hwd]
    clear hlr n0 h0 s2 hR2 s3 hat hR3 s4 hd10 hd11 hd00 hd01 hwd ht1 ht2 hR0
    fail "ww"
    refine ⟨r, wide, _, rfl, hR4, by omega, by omega, fun H5 pl l s5 n5 hR5 hl hlp => ?_⟩
    have hplr := hR4.ne n5
    have hll : l.length = wide := by rw [hlp.length_eq, asc_length]
    have hln : ∀ x ∈ l, Nt x := fun x hx => by
      obtain ⟨k, hk, rfl⟩ := List.mem_map.mp (hlp.mem_iff.mp hx)
      have := List.mem_range.mp hk
      unfold Nt
      exact Nat.le_trans (show (1 + (k : Int)).natAbs ≤ 100 by omega) (by decide)
    clear s5 n5 hR4
    fail "ww"
    refine new_ fun l1 H6 n6 s6 h6 => ?_
    fail "ww"
    have hR6 := hR5.same s6
    have hlr := hR5.ne n6
    have hl6 := s6 _ _ hl
    refine ⟨r, 2, _, rfl, hR6, by omega, by decide, by decide, fun H7 d2 hd20 hd21 s7 hR7 => ?_⟩
    obtain ⟨most, hat, hmo⟩ : ∃ mo : Nat, atI [V.int 12, V.int 190] d2 = some (.int (mo : Int)) ∧ mo ≤ 190 := by
      have : d2 = 0 ∨ d2 = 1 := by omega
      rcases this with e | e <;> subst e
      · exact ⟨12, rfl, by decide⟩
      · exact ⟨190, rfl, by decide⟩
    refine r_ixL (sq (s7 _ _ hlr h6)) hat ?_
    have hl7 := s7 _ _ hplr hl6
    clear hlr n6 h6 s6 hR5 hat s7 hd20 hd21 hR6 hl6 hl
    fail "ww"
    refine ⟨r, wide, most, _, rfl, hR7, hw1, by omega, by omega, by omega, fun H8 pb us ds s8 nb hR8 hB hD hF hld => ?_⟩
    have hl8 := s8 _ _ hplr hl7
    clear s8 nb hR7 hl7
    fail "ww"
    refine ⟨r, pb, wide, _, us, ds, rfl, hR8, hw1, by omega, by omega, hB, hD, hF, by omega, fun H9 pp pa ts ws s9 npp npa hR9 hne hP hA hW hwl hwn => ?_⟩
    have hl9 := s9 _ _ hplr hl8
    have har := hR8.ne npa
    clear s9 hR8 hB hD hF hl8 npp
    refine r_gunl (sq hP) rfl ?_
    fail "ww"
    try simp only [List.set_cons_zero, List.set_cons_succ]
    have shown : ∀ (Hx : Hp) (p : Addr), Hx p = some (.lst [.ref pl, .ref pa]) → Hx pl = some (.lst (l.map V.int)) → Hx pa = some (.lst (ts.map V.ref)) → Cw Hx ts ws → ∀ Q', Q' (.str (PyData.list [dI l, .list (ws.map dP)]).shown) Hx → rReprD K [.ref p] Hx Q' := fun Hx p h1 h2 h3 h4 Q' hq => by
        refine r_repr (d := .list [dI l, .list (ws.map dP)]) (.lst (sq h1) (.cons (dp_lst (sq h2)) (.cons (dp_cw (sq h3) h4) .nil))) ?_ (b := 2 * ((ws.length * 73 + 2 + l.length * 34 + 2) + 2) + 2) ?_ (by omega) hq
        · have e1 := depth_cw ws
          show max (PyData.depthAll (l.map PyData.int) + 1) (max (PyData.depthAll (ws.map dP) + 1) 0) + 1 ≤ 60
          rw [depth_ints]; omega
        · refine Sh.list (ds := [dI l, .list (ws.map dP)]) fun d hd => ?_
          rcases List.mem_cons.mp hd with e | e
          · rw [e]; exact (sh_nts hln).mono (by omega)
          · rw [List.mem_singleton.mp e]; exact (sh_cw hwn).mono (by omega)
    refine new_ fun l2 H10 n10 s10 h10 => ?_
    fail "ww"
    refine shown H10 l2 h10 (s10 _ _ hl9) (s10 _ _ hA) (hW.same s10) _ ?_
    fail "ww"
    have hl10 := s10 _ _ hl9
    have hA10 := s10 _ _ hA
    have hW10 := hW.same s10
    have hR10 := hR9.same s10
    clear s10 n10 h10 hP hl9 hA hW hR9
    generalize (PyData.list [dI l, .list (ws.map dP)]).shown = saved at *
    refine ⟨rfl, _, rfl, ?_⟩
    refine due_if (j := 1) (d := none) rfl (.inl ⟨rfl, rfl⟩) (fun Q' k => k) (fun H11 due s11 hdu => ?_)
    have hl11 := s11 _ _ hl10
    have hA11 := s11 _ _ hA10
    have hW11 := hW10.same s11
    have hR11 := hR10.same s11
    obtain ⟨o1, ho1⟩ : ∃ o1 : Option (Nat × V), orI (eW wide ws) 1 none = o1 := ⟨_, rfl⟩
    have eo1 : dRun wide ws = o1 := by rw [← ho1]; unfold dRun orI; rw [if_neg (by omega)]
    have ok1 : OkO o1 := ho1 ▸ okO_orI (by decide) (fun i e => by have := first_le e; omega) okO_none
    rw [ho1] at hdu
    clear s11 hl10 hA10 hW10 hR10 ho1
    fail "ww"
    refine ⟨by decide, by decide, ?_⟩
    fail "ww"
    intro D nD
    refine lc_it walk_range (fun i Hh => AnI H11 D o1 i Hh) (ani_nil nD) (fun _ _ _ _ => trivial) (fun i' x Hh Hh' hi' pp e => ?_) (fun H12 pp => ?_)
    · obtain ⟨rfl, ex⟩ := e
      have sk := pp.sm
      cases ex
      fail "ww"
      refine ⟨rfl, ?_⟩
      fail "ww"
      refine ⟨i', pl, pa, l, (), congrArg (fun z => [V.int z, V.ref pl, V.ref pa]) (Int.zero_add _), sq (sk _ _ hl11), by omega, .inl ⟨by omega, ts, ws, sq (sk _ _ hA11), hW11.same sk, by omega, fun H2 v s2 ans => ?_⟩⟩
      rw [hll, eo1] at ans
      exact ani_put pp nD (by omega) s2 ans
    fail "ww"
    have s12 := pp.sm
    have hl12 := s12 _ _ hl11
    have hA12 := s12 _ _ hA11
    have hW12 := hW11.same s12
    have hR12 := hR11.same s12
    have hdu12 := hdu.same s12
    obtain ⟨es, hel, hD12, _, hes⟩ := pp
    have hes : ∀ v ∈ es, Du H12 v o1 := fun v m => (hes v m).du
    clear s12 hl11 hA11 hW11 hR11 hdu nD
    refine ⟨pl, pa, l, ts, ws, rfl, sq hl12, by omega, sq hA12, hW12, by omega, fun H13 v13 s13 ans13 => ?_⟩
    rw [hll, eo1] at ans13
    have hv13 := ans13.du
    have hl13 := s13 _ _ hl12
    have hA13 := s13 _ _ hA12
    have hW13 := hW12.same s13
    have hR13 := hR12.same s13
    have hdu13 := hdu12.same s13
    have hD13 := s13 _ _ hD12
    have hes13 : ∀ v ∈ es, Du H13 v o1 := fun v m => (hes v m).same s13
    clear s13 ans13 hl12 hA12 hW12 hR12 hdu12 hD12 hes
    fail "ww"
    refine new_ fun l3 H14 n14 s14 h14 => ?_
    fail "ww"
    refine n_cat (s14 _ _ hD13) h14 (size_le (by rw [hel]; simp)) (new_ fun l4 H15 n15 s15 h15 => ?_)
    fail "ww"
    refine n_reprO (o := o1) (n := 4) h15 (by rw [List.length_append, hel]; rfl) (by decide) (fun v m => ?_) ok1 ?_
    · rcases List.mem_append.mp m with m | m
      · exact ((hes13 v m).same s14).same s15
      · rw [List.mem_singleton.mp m]; exact (hv13.same s14).same s15
    have sa := s14.trans s15
    have hl15 := sa _ _ hl13
    have hA15 := sa _ _ hA13
    have hW15 := hW13.same sa
    have hR15 := hR13.same sa
    have hdu15 := hdu13.same sa
    clear s14 s15 sa h14 h15 n14 n15 hl13 hA13 hW13 hR13 hdu13 hv13 hes13 hD13 hel
    fail "ww"
    refine new_ fun l5 H16 n16 s16 h16 => ?_
    fail "ww"
    refine n_rep (n := 4) h16 (by decide) (show 1 * 4 ≤ 16777216 by decide) (new_ fun l6 H17 n17 s17 h17 => ?_)
    fail "ww"
    refine n_reprO (o := o1) (n := 4) h17 rfl (by decide) (fun v m => ?_) ok1 ?_
    · have : v = due := by simpa using m
      rw [this]
      exact (hdu15.same s16).same s17
    have sa := s16.trans s17
    have hl17 := sa _ _ hl15
    have hA17 := sa _ _ hA15
    have hW17 := hW15.same sa
    have hR17 := hR15.same sa
    clear s16 s17 sa h16 h17 n16 n17 hl15 hA15 hW15 hR15 hdu15
    fail "ww"
    refine ne_skip ?_
    fail "ww"
    refine new_ fun l7 H18 n18 s18 h18 => ?_
    fail "ww"
    refine shown H18 l7 h18 (s18 _ _ hl17) (s18 _ _ hA17) (hW17.same s18) _ ?_
    fail "ww"
    refine ne_skip ?_
    have hl18 := s18 _ _ hl17
    have hA18 := s18 _ _ hA17
    have hW18 := hW17.same s18
    have hR18 := hR17.same s18
    clear shown s18 n18 h18 hl17 hA17 hW17 hR17 ok1 eo1
    fail "ww"
    try simp only [List.set_cons_zero, List.set_cons_succ]
    have eo2 : dRun 0 ws = some (0, .int 0) := rfl
    have ok2 : OkO (some (0, .int 0)) := fun j y e => by cases e; exact ⟨by decide, .inr ⟨0, rfl, by decide⟩⟩
    refine ⟨by decide, by decide, ?_⟩
    fail "ww"
    intro D2 nD2
    refine lc_it walk_range (fun i Hh => AnI H18 D2 (some (0, .int 0)) i Hh) (ani_nil nD2) (fun _ _ _ _ => trivial) (fun i' x Hh Hh' hi' pp e => ?_) (fun H19 pp => ?_)
    · obtain ⟨rfl, ex⟩ := e
      have sk := pp.sm
      cases ex
      fail "ww"
      refine ⟨rfl, ?_⟩
      fail "ww"
      refine new_ fun le G1 ne se he => ?_
      fail "ww"
      refine ⟨i', le, pa, [], (), congrArg (fun z => [V.int z, V.ref le, V.ref pa]) (Int.zero_add _), sq he, Nat.zero_le _, .inl ⟨by omega, ts, ws, sq (se _ _ (sk _ _ hA18)), (hW18.same sk).same se, by omega, fun H2 v s2 ans => ?_⟩⟩
      refine ani_put pp nD2 (by omega) (se.trans s2) ?_
      rcases ans with ⟨z, _⟩ | ⟨p, j, y, h1, h2, h3, h4⟩
      · rw [show dRun ([] : List Int).length ws = _ from eo2] at z; cases z
      · exact .inr ⟨p, j, y, h1, h2, se.free h3, h4⟩
    fail "ww"
    have s19 := pp.sm
    have hl19 := s19 _ _ hl18
    have hA19 := s19 _ _ hA18
    have hW19 := hW18.same s19
    have hR19 := hR18.same s19
    obtain ⟨fs, hfl, hD19, _, hfs⟩ := pp
    have hfs : ∀ v ∈ fs, Du H19 v (some (0, .int 0)) := fun v m => (hfs v m).du
    clear s19 hl18 hA18 hW18 hR18 nD2
    refine new_ fun le H20 n20 s20 h20 => ?_
    fail "ww"
    refine ⟨le, pa, [], ts, ws, rfl, sq h20, Nat.zero_le _, sq (s20 _ _ hA19), hW19.same s20, by omega, fun H21 v21 s21 ans21 => ?_⟩
    have hv21 : Du H21 v21 (some (0, .int 0)) := ans21.du
    have sa := s20.trans s21
    have hl21 := sa _ _ hl19
    have hR21 := hR19.same sa
    have hD21 := sa _ _ hD19
    have hfs21 : ∀ v ∈ fs, Du H21 v (some (0, .int 0)) := fun v m => (hfs v m).same sa
    clear s20 s21 sa n20 h20 ans21 hl19 hA19 hW19 hR19 hD19 hfs
    fail "ww"
    refine new_ fun l3 H22 n22 s22 h22 => ?_
    fail "ww"
    refine n_cat (s22 _ _ hD21) h22 (size_le (by rw [hfl]; simp)) (new_ fun l4 H23 n23 s23 h23 => ?_)
    fail "ww"
    refine n_reprO (o := some (0, .int 0)) (n := 4) h23 (by rw [List.length_append, hfl]; rfl) (by decide) (fun v m => ?_) ok2 ?_
    · rcases List.mem_append.mp m with m | m
      · exact ((hfs21 v m).same s22).same s23
      · rw [List.mem_singleton.mp m]; exact (hv21.same s22).same s23
    have sa := s22.trans s23
    have hl23 := sa _ _ hl21
    have hR23 := hR21.same sa
    clear s22 s23 sa n22 n23 h22 h23 hl21 hR21 hD21 hfs21 hv21 hfl
    fail "ww"
    refine new_ fun l5 H24 n24 s24 h24 => ?_
    fail "ww"
    refine new_ fun l6 H25 n25 s25 h25 => ?_
    fail "ww"
    refine n_rep (n := 4) h25 (by decide) (show 1 * 4 ≤ 16777216 by decide) (new_ fun l7 H26 n26 s26 h26 => ?_)
    fail "ww"
    refine n_reprO (o := some (0, .int 0)) (n := 4) h26 rfl (by decide) (fun v m => ?_) ok2 ?_
    · have : v = .ref l5 := by simpa using m
      rw [this]
      exact .inr ⟨l5, 0, .int 0, rfl, rfl, s26 _ _ (s25 _ _ h24)⟩
    have sa := (s24.trans s25).trans s26
    have hl26 := sa _ _ hl23
    have hR26 := hR23.same sa
    clear s24 s25 s26 sa n24 n25 n26 h24 h25 h26 hl23 hR23 ok2 eo2
    fail "ww"
    refine ne_skip ?_
    fail "ww"
    try simp only [List.set_cons_zero, List.set_cons_succ]
    refine ⟨r, pl, _, l, rfl, hR26, by omega, hl26, by omega, by omega, hln, fun H27 p27 f1 ms s27 np27 nf27 hR27 hne27 hP27 hf27 hml hmn => ?_⟩
    have hf1r := hR26.ne nf27
    clear s27 np27 nf27 hR26 hl26 hplr
    fail "ww"
    refine r_gunl (sq hP27) rfl ?_
    fail "ww"
    try simp only [List.set_cons_zero, List.set_cons_succ]
    refine ⟨r, 9, _, rfl, hR27, by omega, by decide, by decide, fun H28 d3 hd30 hd31 s28 hR28 => ?_⟩
    have hf28 := s28 _ _ hf1r hf27
    clear s28 hR27 hP27 hf27 hne27
    fail "ww"
    refine new_ fun l8 H29 n29 s29 h29 => ?_
    fail "ww"
    have hR29 := hR28.same s29
    have hlr := hR28.ne n29
    have hf29 := s29 _ _ hf28
    refine ⟨r, 2, _, rfl, hR29, by omega, by decide, by decide, fun H30 d4 hd40 hd41 s30 hR30 => ?_⟩
    obtain ⟨far, hat, hfa1, hfa2⟩ : ∃ far : Nat, atI [V.int (wide : Int), V.int (1 + d3)] d4 = some (.int (far : Int)) ∧ 1 ≤ far ∧ far ≤ 30 := by
      have : d4 = 0 ∨ d4 = 1 := by omega
      rcases this with e | e <;> subst e
      · exact ⟨wide, rfl, by omega, by omega⟩
      · refine ⟨(1 + d3).toNat, ?_, by omega, by omega⟩
        rw [show (((1 + d3).toNat : Nat) : Int) = 1 + d3 by omega]
        rfl
    have hf30 := s30 _ _ hf1r hf29
    refine r_ixL (sq (s30 _ _ hlr h29)) hat ?_
    clear hlr n29 h29 s29 hR28 hat s30 hR29 hd40 hd41 hd30 hd31 hf28 hf29
    fail "ww"
    refine ⟨r, far, _, rfl, hR30, by omega, by omega, fun H31 pm m1 s31 n31 hR31 hm1 hmp => ?_⟩
    have hpmr := hR30.ne n31
    have hm1l : m1.length = far := by rw [hmp.length_eq, asc_length]
    have hm1n : ∀ x ∈ m1, Nt x := fun x hx => by
      obtain ⟨k, hk, rfl⟩ := List.mem_map.mp (hmp.mem_iff.mp hx)
      have := List.mem_range.mp hk
      unfold Nt
      exact Nat.le_trans (show (1 + (k : Int)).natAbs ≤ 100 by omega) (by decide)
    have hf31 := s31 _ _ hf1r hf30
    clear s31 n31 hR30 hf30
    fail "ww"
    refine ⟨r, pm, _, m1, rfl, hR31, by omega, hm1, by omega, by omega, hm1n, fun H32 p32 f2 ks s32 np32 nf32 hR32 hne32 hP32 hf32 hkl hkn => ?_⟩
    have hf2r := hR31.ne nf32
    have hf1 := s32 _ _ hf1r hf31
    clear s32 np32 nf32 hR31 hf31 hm1 hpmr
    fail "ww"
    refine r_gunl (sq hP32) rfl ?_
    clear hne32 hP32
    fail "ww"
    try simp only [List.set_cons_zero, List.set_cons_succ]
    refine due_ne (j := 4) fun H33 v33 s33 hv33 => ?_
    have hv33 : Du H33 v33 (if ms.length = ks.length then none else some (4, .non)) := by
      have : (if ((wide : Nat) : Int) = (far : Int) then none else some (4, V.non)) = (if ms.length = ks.length then none else some (4, .non)) := by
        rw [hml, hkl, hll, hm1l]
        by_cases e : wide = far
        · rw [if_pos e, if_pos (by omega)]
        · rw [if_neg e, if_neg (by omega)]
      rw [← this]; exact hv33
    have hf133 := s33 _ _ hf1
    have hf233 := s33 _ _ hf32
    have hR33 := hR32.same s33
    clear s33 hf1 hf32 hR32
    fail "ww"
    refine ⟨rfl, _, rfl, ?_⟩
    refine due_if (j := 2) rfl hv33 (fun Q' k => r_var rfl k) (fun H34 v34 s34 hv34 => ?_)
    have hf134 := s34 _ _ hf133
    have hf234 := s34 _ _ hf233
    have hR34 := hR33.same s34
    clear s34 hf133 hf233 hR33 hv33
    fail "ww"
    refine ⟨rfl, _, rfl, ?_⟩
    refine due_if (j := 2) rfl hv34 (fun Q' k => r_var rfl k) (fun H35 v35 s35 hv35 => ?_)
    have hf135 := s35 _ _ hf134
    have hf235 := s35 _ _ hf234
    have hR35 := hR34.same s35
    clear s35 hf134 hf234 hR34 hv34
    have eo3 : orI (eR ms) 2 (orI (eR ks) 2 (if ms.length = ks.length then none else some (4, .non))) = dMost ms ks := by
      unfold dMost orI
      cases eR ms with
      | some i => rfl
      | none => cases eR ks <;> rfl
    have ok3 : OkO (dMost ms ks) := eo3 ▸ okO_orI (by decide) (fun i e => by have := first_le e; omega) (okO_orI (by decide) (fun i e => by have := first_le e; omega) (by
      split
      · exact okO_none
      · intro j y e; cases e; exact ⟨by decide, .inl rfl⟩))
    rw [eo3] at hv35
    clear eo3
    fail "ww"
    try simp only [List.set_cons_zero, List.set_cons_succ]
    have shown : ∀ (Hx : Hp) (p : Addr), Hx p = some (.lst [.ref f1, .ref f2]) → Hx f1 = some (.lst (ms.map V.int)) → Hx f2 = some (.lst (ks.map V.int)) → ∀ Q', Q' (.str (PyData.list [dI ms, dI ks]).shown) Hx → rReprD K [.ref p] Hx Q' := fun Hx p h1 h2 h3 Q' hq => by
        refine r_repr (d := .list [dI ms, dI ks]) (.lst (sq h1) (.cons (dp_lst (sq h2)) (.cons (dp_lst (sq h3)) .nil))) ?_ (b := 2 * ((ms.length * 34 + 2 + ks.length * 34 + 2) + 2) + 2) ?_ (by omega) hq
        · show max (PyData.depthAll (ms.map PyData.int) + 1) (max (PyData.depthAll (ks.map PyData.int) + 1) 0) + 1 ≤ 60
          rw [depth_ints, depth_ints]; decide
        · refine Sh.list (ds := [dI ms, dI ks]) fun d hd => ?_
          rcases List.mem_cons.mp hd with e | e
          · rw [e]; exact (sh_nts hmn).mono (by omega)
          · rw [List.mem_singleton.mp e]; exact (sh_nts hkn).mono (by omega)
    refine new_ fun l9 H36 n36 s36 h36 => ?_
    fail "ww"
    refine shown H36 l9 h36 (s36 _ _ hf135) (s36 _ _ hf235) _ ?_
    fail "ww"
    have hf136 := s36 _ _ hf135
    have hf236 := s36 _ _ hf235
    have hR36 := hR35.same s36
    have hv36 := hv35.same s36
    clear s36 n36 h36 hf135 hf235 hR35 hv35
    generalize (PyData.list [dI ms, dI ks]).shown = kept2 at *
    fail "ww"
    refine new_ fun l10 H37 n37 s37 h37 => ?_
    have hf137 := s37 _ _ hf136
    have hf237 := s37 _ _ hf236
    have hR37 := hR36.same s37
    have hv37 := hv36.same s37
    clear s37 n37 hf136 hf236 hR36 hv36
    fail "ww"
    refine ⟨⟨_, sqT h37⟩, ?_⟩
    intro D3 nD3
    refine lc_it (walk_tup (xs := [.int 3, .int 4])) (fun i Hh => AnI H37 D3 (dMost ms ks) i Hh) (ani_nil nD3) (fun i Hh _ pp => sqT (pp.sm _ _ h37)) (fun i' x Hh Hh' hi' pp e => ?_) (fun H38 pp => ?_)
    · obtain ⟨rfl, ex⟩ := e
      have sk := pp.sm
      have hi2 : i' < 2 := hi'
      obtain ⟨dd, rfl, hdd⟩ : ∃ dd : Nat, x = .int (dd : Int) ∧ (dd = 3 ∨ dd = 4) := by
        have : i' = 0 ∨ i' = 1 := by omega
        rcases this with e | e <;> subst e
        · cases ex; exact ⟨3, rfl, .inl rfl⟩
        · cases ex; exact ⟨4, rfl, .inr rfl⟩
      fail "ww"
      refine ⟨rfl, ?_⟩
      fail "ww"
      refine ⟨dd, f1, f2, ms, (), rfl, sq (sk _ _ hf137), by omega, .inr ⟨hdd, ks, sq (sk _ _ hf237), by omega, by omega, fun H2 v s2 ans => ?_⟩⟩
      exact ani_put pp nD3 (by omega) s2 ans
    have s38 := pp.sm
    have hf138 := s38 _ _ hf137
    have hf238 := s38 _ _ hf237
    have hR38 := hR37.same s38
    have hv38 := hv37.same s38
    obtain ⟨gs, hgl, hD38, _, hgs⟩ := pp
    have hgs : ∀ v ∈ gs, Du H38 v (dMost ms ks) := fun v m => (hgs v m).du
    clear s38 nD3 hf137 hf237 hR37 hv37 h37
    fail "ww"
    refine n_reprO (o := dMost ms ks) (n := 2) hD38 hgl (by decide) hgs ok3 ?_
    fail "ww"
    refine new_ fun l11 H39 n39 s39 h39 => ?_
    fail "ww"
    refine n_reprO (o := dMost ms ks) (n := 2) h39 rfl (by decide) (fun v m => ?_) ok3 ?_
    · have : v = v35 := by simpa using m
      rw [this]; exact hv38.same s39
    have hf139 := s39 _ _ hf138
    have hf239 := s39 _ _ hf238
    have hR39 := hR38.same s39
    clear s39 n39 h39 hf138 hf238 hR38 hv38 hgs hgl hD38 ok3
    fail "ww"
    refine ne_skip ?_
    fail "ww"
    refine new_ fun l12 H40 n40 s40 h40 => ?_
    fail "ww"
    refine shown H40 l12 h40 (s40 _ _ hf139) (s40 _ _ hf239) _ ?_
    have hf140 := s40 _ _ hf139
    have hR40 := hR39.same s40
    clear s40 n40 h40 hf139 hf239 hR39 shown
    fail "ww"
    refine ne_skip ?_
    fail "ww"
    refine ⟨f1, ms, rfl, sq hf140, by omega, fun H41 s41 => ?_⟩
    have hR41 := hR40.same s41
    clear s41 hf140 hR40
    fail "ww"
    rw [decide_eq_false (show ¬ ((inv ms : Nat) : Int) < 0 by omega)]
    fail "ww"
    refine new_ fun l13 H42 n42 s42 h42 => ?_
    have hR42 := hR41.same s42
    have hlr := hR41.ne n42
    clear s42 n42 hR41
    fail "ww"
    refine ⟨r, 4, _, rfl, hR42, by omega, by decide, by decide, fun H43 d5 hd50 hd51 s43 hR43 => ?_⟩
    obtain ⟨y, hat, hy⟩ : ∃ y, atI [V.int (wide : Int), V.non, V.int (0 - (wide : Int)), V.str "a b"] d5 = some y ∧ Flat3 y := by
      have : d5 = 0 ∨ d5 = 1 ∨ d5 = 2 ∨ d5 = 3 := by omega
      rcases this with e | e | e | e <;> subst e
      · exact ⟨_, rfl, .inr (.inl ⟨_, rfl⟩)⟩
      · exact ⟨_, rfl, .inl rfl⟩
      · exact ⟨_, rfl, .inr (.inl ⟨_, rfl⟩)⟩
      · exact ⟨_, rfl, .inr (.inr ⟨_, rfl, by decide +kernel⟩)⟩
    refine r_ixL (sq (s43 _ _ hlr h42)) hat ?_
    clear hat s43 hR42 h42 hlr
    fail "ww"
    refine ⟨y, rfl, hy, fun H44 s44 => ?_⟩
    have hR44 := (hR43.same s44).le (show _ ≤ 2000 * (i + 1) by omega)
    clear hR43 s44
    fail "ww"
    exact ⟨_, _, _, _, _, _, _, _, _, _, _, _, _, _, rfl, hR44⟩
  · obtain ⟨y2, y3, y4, y5, y6, y7, y8, y9, y10, y11, y12, y13, y14, y15, rfl, hR0⟩ := p
    clear hR0 hR
    fail "ww"
    refine new_ fun a1 G1 n1 e1 h1 => ?_
    fail "ww"
    refine new_ fun t1 G2 n2 e2 h2 => ?_
    fail "ww"
    refine new_ fun t2 G3 n3 e3 h3 => ?_
    fail "ww"
    refine new_ fun b1 G4 n4 e4 h4 => ?_
    fail "ww"
    refine ⟨0, a1, b1, [5], (), rfl, sq (e4 _ _ (e3 _ _ (e2 _ _ h1))), by decide, .inl ⟨by decide, [t1, t2], [(1, 1), (1, 2)], sq h4, ⟨rfl, fun k u e => ?_⟩, by decide, fun G5 v e5 ans => ?_⟩⟩
    · match k, e with
      | 0, e => cases e; exact ⟨(1, 1), rfl, e4 _ _ (e3 _ _ h2)⟩
      | 1, e => cases e; exact ⟨(1, 2), rfl, e4 _ _ h3⟩
    clear e1 e2 e3 e4 n1 n2 n3 n4 h1 h2 h3 h4 e5
    rcases ans with ⟨z, _⟩ | ⟨p, j, y, ej, rfl, _, hp⟩
    · exact nomatch (show (some (1, .int 1) : Option (Nat × V)) = none from z)
    have ej : some (1, V.int 1) = some (j, y) := ej
    cases ej
    fail "ww"
    refine new_ fun q1 G6 n6 e6 h6 => ?_
    fail "ww"
    refine ⟨.list [.str "command", .int 1], .list [.str "command", .int 1], .lst (sq (e6 _ _ hp)) (.cons (.str _) (.cons (.int _) .nil)), .lst (sq h6) (.cons (.str _) (.cons (.int _) .nil)), by decide +kernel, by decide +kernel, ?_⟩
    rw [PySem.SeqAt.eqv_refl _ (by decide +kernel)]
    clear n6 e6 h6 hp
    fail "ww"
    refine new_ fun a2 G7 n7 e7 h7 => ?_
    fail "ww"
    refine new_ fun b2 G8 n8 e8 h8 => ?_
    fail "ww"
    refine ⟨3, a2, b2, [2, 2], (), rfl, sq (e8 _ _ h7), by decide, .inr ⟨.inl rfl, [3], sq h8, by decide, by decide, fun G9 v e9 ans => ?_⟩⟩
    rcases ans with ⟨z, _⟩ | ⟨p, j, y, ej, rfl, _, hp⟩
    · exact nomatch (show (some (2, .int 1) : Option (Nat × V)) = none from z)
    have ej : some (2, V.int 1) = some (j, y) := ej
    cases ej
    clear n7 n8 e7 e8 e9 h7 h8
    fail "ww"
    refine new_ fun q2 G10 n10 e10 h10 => ?_
    fail "ww"
    refine ⟨.list [.str "row", .int 1], .list [.str "row", .int 1], .lst (sq (e10 _ _ hp)) (.cons (.str _) (.cons (.int _) .nil)), .lst (sq h10) (.cons (.str _) (.cons (.int _) .nil)), by decide +kernel, by decide +kernel, ?_⟩
    rw [PySem.SeqAt.eqv_refl _ (by decide +kernel)]
    exact q _
end
theorem all_mk {w : World} {K : PySem.W.Frag} {h : Heap} {mg : Str → Option Value} {l : PySem.W.OpenLaw} {fa f_sort_stretches f_inversions f_law_rng f_law_draw f_law_kind f_law_commands f_law_arranged f_law_bad_commands f_law_bad_row f_check_size f_check_script f_check_arrangement f_check_sized_script f_is_at_most f_law_built_right f_run f_stages f_law_told f_law_first f_law : Addr} (X : K.In h) (G : h.Ns mainGlobals mg) (hfa : mg "law" = some (.ref fa))
    {od0 an0 od1 an1 od2 an2 od3 an3 od4 an4 od5 an5 od6 an6 od7 an7 od8 an8 od9 an9 od10 an10 od11 an11 od12 an12 od13 an13 od14 an14 od15 an15 od16 an16 od17 an17 od18 an18 od19 an19 : Option Addr} {sl0 sl1 sl2 sl3 sl4 sl5 sl6 sl7 sl8 sl9 sl10 sl11 sl12 sl13 sl14 sl15 sl16 sl17 sl18 sl19 : Array (Option Value)} {oc0 kV0 dc0 pm0 cd0 ct0 oc1 kV1 dc1 pm1 cd1 ct1 oc2 kV2 dc2 pm2 cd2 ct2 oc3 kV3 dc3 pm3 cd3 ct3 oc4 kV4 dc4 pm4 cd4 ct4 oc5 kV5 dc5 pm5 cd5 ct5 oc6 kV6 dc6 pm6 cd6 ct6 oc7 kV7 dc7 pm7 cd7 ct7 oc8 kV8 dc8 pm8 cd8 ct8 oc9 kV9 dc9 pm9 cd9 ct9 oc10 kV10 dc10 pm10 cd10 ct10 oc11 kV11 dc11 pm11 cd11 ct11 oc12 kV12 dc12 pm12 cd12 ct12 oc13 kV13 dc13 pm13 cd13 ct13 oc14 kV14 dc14 pm14 cd14 ct14 oc15 kV15 dc15 pm15 cd15 ct15 oc16 kV16 dc16 pm16 cd16 ct16 oc17 kV17 dc17 pm17 cd17 ct17 oc18 kV18 dc18 pm18 cd18 ct18 oc19 kV19 dc19 pm19 cd19 ct19 : Value}
    (a0 : PySem.W.nsIn K mainGlobals "sort_stretches" = some (some (.ref f_sort_stretches)))
    (l0 : K.lookup f_sort_stretches = some ⟨oc0, od0, .func (PySem.W.fnOf "sort_stretches" "sort_stretches" (defArgs s_sort_stretches) (defBody s_sort_stretches) (defScope s_sort_stretches) .none kV0 dc0 pm0 an0 cd0 ct0), sl0⟩) (c0 : PySem.W.codeIn K cd0 "sort_stretches" = true) (k0 : PySem.W.keepIn K (.ref f_sort_stretches) = true)
    (a1 : PySem.W.nsIn K mainGlobals "inversions" = some (some (.ref f_inversions)))
    (l1 : K.lookup f_inversions = some ⟨oc1, od1, .func (PySem.W.fnOf "inversions" "inversions" (defArgs s_inversions) (defBody s_inversions) (defScope s_inversions) .none kV1 dc1 pm1 an1 cd1 ct1), sl1⟩) (c1 : PySem.W.codeIn K cd1 "inversions" = true) (k1 : PySem.W.keepIn K (.ref f_inversions) = true)
    (a2 : PySem.W.nsIn K mainGlobals "_law_rng" = some (some (.ref f_law_rng)))
    (l2 : K.lookup f_law_rng = some ⟨oc2, od2, .func (PySem.W.fnOf "_law_rng" "_law_rng" (defArgs s_law_rng) (defBody s_law_rng) (defScope s_law_rng) .none kV2 dc2 pm2 an2 cd2 ct2), sl2⟩) (c2 : PySem.W.codeIn K cd2 "_law_rng" = true) (k2 : PySem.W.keepIn K (.ref f_law_rng) = true)
    (a3 : PySem.W.nsIn K mainGlobals "_law_draw" = some (some (.ref f_law_draw)))
    (l3 : K.lookup f_law_draw = some ⟨oc3, od3, .func (PySem.W.fnOf "_law_draw" "_law_draw" (defArgs s_law_draw) (defBody s_law_draw) (defScope s_law_draw) .none kV3 dc3 pm3 an3 cd3 ct3), sl3⟩) (c3 : PySem.W.codeIn K cd3 "_law_draw" = true) (k3 : PySem.W.keepIn K (.ref f_law_draw) = true)
    (a4 : PySem.W.nsIn K mainGlobals "_law_kind" = some (some (.ref f_law_kind)))
    (l4 : K.lookup f_law_kind = some ⟨oc4, od4, .func (PySem.W.fnOf "_law_kind" "_law_kind" (defArgs s_law_kind) (defBody s_law_kind) (defScope s_law_kind) .none kV4 dc4 pm4 an4 cd4 ct4), sl4⟩) (c4 : PySem.W.codeIn K cd4 "_law_kind" = true) (k4 : PySem.W.keepIn K (.ref f_law_kind) = true)
    (a5 : PySem.W.nsIn K mainGlobals "_law_commands" = some (some (.ref f_law_commands)))
    (l5 : K.lookup f_law_commands = some ⟨oc5, od5, .func (PySem.W.fnOf "_law_commands" "_law_commands" (defArgs s_law_commands) (defBody s_law_commands) (defScope s_law_commands) .none kV5 dc5 pm5 an5 cd5 ct5), sl5⟩) (c5 : PySem.W.codeIn K cd5 "_law_commands" = true) (k5 : PySem.W.keepIn K (.ref f_law_commands) = true)
    (a6 : PySem.W.nsIn K mainGlobals "_law_arranged" = some (some (.ref f_law_arranged)))
    (l6 : K.lookup f_law_arranged = some ⟨oc6, od6, .func (PySem.W.fnOf "_law_arranged" "_law_arranged" (defArgs s_law_arranged) (defBody s_law_arranged) (defScope s_law_arranged) .none kV6 dc6 pm6 an6 cd6 ct6), sl6⟩) (c6 : PySem.W.codeIn K cd6 "_law_arranged" = true) (k6 : PySem.W.keepIn K (.ref f_law_arranged) = true)
    (a7 : PySem.W.nsIn K mainGlobals "_law_bad_commands" = some (some (.ref f_law_bad_commands)))
    (l7 : K.lookup f_law_bad_commands = some ⟨oc7, od7, .func (PySem.W.fnOf "_law_bad_commands" "_law_bad_commands" (defArgs s_law_bad_commands) (defBody s_law_bad_commands) (defScope s_law_bad_commands) .none kV7 dc7 pm7 an7 cd7 ct7), sl7⟩) (c7 : PySem.W.codeIn K cd7 "_law_bad_commands" = true) (k7 : PySem.W.keepIn K (.ref f_law_bad_commands) = true)
    (a8 : PySem.W.nsIn K mainGlobals "_law_bad_row" = some (some (.ref f_law_bad_row)))
    (l8 : K.lookup f_law_bad_row = some ⟨oc8, od8, .func (PySem.W.fnOf "_law_bad_row" "_law_bad_row" (defArgs s_law_bad_row) (defBody s_law_bad_row) (defScope s_law_bad_row) .none kV8 dc8 pm8 an8 cd8 ct8), sl8⟩) (c8 : PySem.W.codeIn K cd8 "_law_bad_row" = true) (k8 : PySem.W.keepIn K (.ref f_law_bad_row) = true)
    (a9 : PySem.W.nsIn K mainGlobals "check_size" = some (some (.ref f_check_size)))
    (l9 : K.lookup f_check_size = some ⟨oc9, od9, .func (PySem.W.fnOf "check_size" "check_size" (defArgs s_check_size) (defBody s_check_size) (defScope s_check_size) .none kV9 dc9 pm9 an9 cd9 ct9), sl9⟩) (c9 : PySem.W.codeIn K cd9 "check_size" = true) (k9 : PySem.W.keepIn K (.ref f_check_size) = true)
    (a10 : PySem.W.nsIn K mainGlobals "check_script" = some (some (.ref f_check_script)))
    (l10 : K.lookup f_check_script = some ⟨oc10, od10, .func (PySem.W.fnOf "check_script" "check_script" (defArgs s_check_script) (defBody s_check_script) (defScope s_check_script) .none kV10 dc10 pm10 an10 cd10 ct10), sl10⟩) (c10 : PySem.W.codeIn K cd10 "check_script" = true) (k10 : PySem.W.keepIn K (.ref f_check_script) = true)
    (a11 : PySem.W.nsIn K mainGlobals "check_arrangement" = some (some (.ref f_check_arrangement)))
    (l11 : K.lookup f_check_arrangement = some ⟨oc11, od11, .func (PySem.W.fnOf "check_arrangement" "check_arrangement" (defArgs s_check_arrangement) (defBody s_check_arrangement) (defScope s_check_arrangement) .none kV11 dc11 pm11 an11 cd11 ct11), sl11⟩) (c11 : PySem.W.codeIn K cd11 "check_arrangement" = true) (k11 : PySem.W.keepIn K (.ref f_check_arrangement) = true)
    (a12 : PySem.W.nsIn K mainGlobals "check_sized_script" = some (some (.ref f_check_sized_script)))
    (l12 : K.lookup f_check_sized_script = some ⟨oc12, od12, .func (PySem.W.fnOf "check_sized_script" "check_sized_script" (defArgs s_check_sized_script) (defBody s_check_sized_script) (defScope s_check_sized_script) .none kV12 dc12 pm12 an12 cd12 ct12), sl12⟩) (c12 : PySem.W.codeIn K cd12 "check_sized_script" = true) (k12 : PySem.W.keepIn K (.ref f_check_sized_script) = true)
    (a13 : PySem.W.nsIn K mainGlobals "is_at_most" = some (some (.ref f_is_at_most)))
    (l13 : K.lookup f_is_at_most = some ⟨oc13, od13, .func (PySem.W.fnOf "is_at_most" "is_at_most" (defArgs s_is_at_most) (defBody s_is_at_most) (defScope s_is_at_most) .none kV13 dc13 pm13 an13 cd13 ct13), sl13⟩) (c13 : PySem.W.codeIn K cd13 "is_at_most" = true) (k13 : PySem.W.keepIn K (.ref f_is_at_most) = true)
    (a14 : PySem.W.nsIn K mainGlobals "_law_built_right" = some (some (.ref f_law_built_right)))
    (l14 : K.lookup f_law_built_right = some ⟨oc14, od14, .func (PySem.W.fnOf "_law_built_right" "_law_built_right" (defArgs s_law_built_right) (defBody s_law_built_right) (defScope s_law_built_right) .none kV14 dc14 pm14 an14 cd14 ct14), sl14⟩) (c14 : PySem.W.codeIn K cd14 "_law_built_right" = true) (k14 : PySem.W.keepIn K (.ref f_law_built_right) = true)
    (a15 : PySem.W.nsIn K mainGlobals "run" = some (some (.ref f_run)))
    (l15 : K.lookup f_run = some ⟨oc15, od15, .func (PySem.W.fnOf "run" "run" (defArgs s_run) (defBody s_run) (defScope s_run) .none kV15 dc15 pm15 an15 cd15 ct15), sl15⟩) (c15 : PySem.W.codeIn K cd15 "run" = true) (k15 : PySem.W.keepIn K (.ref f_run) = true)
    (a16 : PySem.W.nsIn K mainGlobals "stages" = some (some (.ref f_stages)))
    (l16 : K.lookup f_stages = some ⟨oc16, od16, .func (PySem.W.fnOf "stages" "stages" (defArgs s_stages) (defBody s_stages) (defScope s_stages) .none kV16 dc16 pm16 an16 cd16 ct16), sl16⟩) (c16 : PySem.W.codeIn K cd16 "stages" = true) (k16 : PySem.W.keepIn K (.ref f_stages) = true)
    (a17 : PySem.W.nsIn K mainGlobals "_law_told" = some (some (.ref f_law_told)))
    (l17 : K.lookup f_law_told = some ⟨oc17, od17, .func (PySem.W.fnOf "_law_told" "_law_told" (defArgs s_law_told) (defBody s_law_told) (defScope s_law_told) .none kV17 dc17 pm17 an17 cd17 ct17), sl17⟩) (c17 : PySem.W.codeIn K cd17 "_law_told" = true) (k17 : PySem.W.keepIn K (.ref f_law_told) = true)
    (a18 : PySem.W.nsIn K mainGlobals "_law_first" = some (some (.ref f_law_first)))
    (l18 : K.lookup f_law_first = some ⟨oc18, od18, .func (PySem.W.fnOf "_law_first" "_law_first" (defArgs s_law_first) (defBody s_law_first) (defScope s_law_first) .none kV18 dc18 pm18 an18 cd18 ct18), sl18⟩) (c18 : PySem.W.codeIn K cd18 "_law_first" = true) (k18 : PySem.W.keepIn K (.ref f_law_first) = true)
    (a19 : PySem.W.nsIn K mainGlobals "law" = some (some (.ref f_law)))
    (l19 : K.lookup f_law = some ⟨oc19, od19, .func (PySem.W.fnOf "law" "law" (defArgs s_law) (defBody s_law) (defScope s_law) .none kV19 dc19 pm19 an19 cd19 ct19), sl19⟩) (c19 : PySem.W.codeIn K cd19 "law" = true) (k19 : PySem.W.keepIn K (.ref f_law) = true)
    {C_InvalidCommand C_InvalidNumber C_InvalidRow C_InvalidSize C_NothingToUndo C_SortError C_UnequalSizes C_Unreadable : Addr} {CSE : Addr}
    {ci_InvalidCommand ci_InvalidNumber ci_InvalidRow ci_InvalidSize ci_NothingToUndo ci_UnequalSizes ci_Unreadable : Addr} {nm_InvalidCommand qn_InvalidCommand nm_InvalidNumber qn_InvalidNumber nm_InvalidRow qn_InvalidRow nm_InvalidSize qn_InvalidSize nm_NothingToUndo qn_NothingToUndo nm_UnequalSizes qn_UnequalSizes nm_Unreadable qn_Unreadable : Str} {N_InvalidCommand N_InvalidNumber N_InvalidRow N_InvalidSize N_NothingToUndo N_UnequalSizes N_Unreadable : Addr} {bs_InvalidCommand sub_InvalidCommand bs_InvalidNumber sub_InvalidNumber bs_InvalidRow sub_InvalidRow bs_InvalidSize sub_InvalidSize bs_NothingToUndo sub_NothingToUndo bs_UnequalSizes sub_UnequalSizes bs_Unreadable sub_Unreadable : List Value} {sn_InvalidCommand sn_InvalidNumber sn_InvalidRow sn_InvalidSize sn_NothingToUndo sn_UnequalSizes sn_Unreadable : List Str} {ab_InvalidCommand ab_InvalidNumber ab_InvalidRow ab_InvalidSize ab_NothingToUndo ab_UnequalSizes ab_Unreadable : Bool} {col_InvalidCommand col_InvalidNumber col_InvalidRow col_InvalidSize col_NothingToUndo col_UnequalSizes col_Unreadable : Option Bool} {dd_InvalidCommand odi_InvalidCommand ani_InvalidCommand dd_InvalidNumber odi_InvalidNumber ani_InvalidNumber dd_InvalidRow odi_InvalidRow ani_InvalidRow dd_InvalidSize odi_InvalidSize ani_InvalidSize dd_NothingToUndo odi_NothingToUndo ani_NothingToUndo dd_UnequalSizes odi_UnequalSizes ani_UnequalSizes dd_Unreadable odi_Unreadable ani_Unreadable : Option Addr} {m0_InvalidCommand m1_InvalidCommand m2_InvalidCommand m3_InvalidCommand m5_InvalidCommand m0_InvalidNumber m1_InvalidNumber m2_InvalidNumber m3_InvalidNumber m5_InvalidNumber m0_InvalidRow m1_InvalidRow m2_InvalidRow m3_InvalidRow m5_InvalidRow m0_InvalidSize m1_InvalidSize m2_InvalidSize m3_InvalidSize m5_InvalidSize m0_NothingToUndo m1_NothingToUndo m2_NothingToUndo m3_NothingToUndo m5_NothingToUndo m0_UnequalSizes m1_UnequalSizes m2_UnequalSizes m3_UnequalSizes m5_UnequalSizes m0_Unreadable m1_Unreadable m2_Unreadable m3_Unreadable m5_Unreadable : Option Value}
    {sli_InvalidCommand sli_InvalidNumber sli_InvalidRow sli_InvalidSize sli_NothingToUndo sli_UnequalSizes sli_Unreadable : Array (Option Value)} {oci_InvalidCommand kVi_InvalidCommand dci_InvalidCommand pmi_InvalidCommand cdi_InvalidCommand cti_InvalidCommand oci_InvalidNumber kVi_InvalidNumber dci_InvalidNumber pmi_InvalidNumber cdi_InvalidNumber cti_InvalidNumber oci_InvalidRow kVi_InvalidRow dci_InvalidRow pmi_InvalidRow cdi_InvalidRow cti_InvalidRow oci_InvalidSize kVi_InvalidSize dci_InvalidSize pmi_InvalidSize cdi_InvalidSize cti_InvalidSize oci_NothingToUndo kVi_NothingToUndo dci_NothingToUndo pmi_NothingToUndo cdi_NothingToUndo cti_NothingToUndo oci_UnequalSizes kVi_UnequalSizes dci_UnequalSizes pmi_UnequalSizes cdi_UnequalSizes cti_UnequalSizes oci_Unreadable kVi_Unreadable dci_Unreadable pmi_Unreadable cdi_Unreadable cti_Unreadable : Value}
    (aC_InvalidCommand : PySem.W.nsIn K mainGlobals "InvalidCommand" = some (some (.ref C_InvalidCommand)))
    (aC_InvalidNumber : PySem.W.nsIn K mainGlobals "InvalidNumber" = some (some (.ref C_InvalidNumber)))
    (aC_InvalidRow : PySem.W.nsIn K mainGlobals "InvalidRow" = some (some (.ref C_InvalidRow)))
    (aC_InvalidSize : PySem.W.nsIn K mainGlobals "InvalidSize" = some (some (.ref C_InvalidSize)))
    (aC_NothingToUndo : PySem.W.nsIn K mainGlobals "NothingToUndo" = some (some (.ref C_NothingToUndo)))
    (aC_SortError : PySem.W.nsIn K mainGlobals "SortError" = some (some (.ref C_SortError)))
    (aC_UnequalSizes : PySem.W.nsIn K mainGlobals "UnequalSizes" = some (some (.ref C_UnequalSizes)))
    (aC_Unreadable : PySem.W.nsIn K mainGlobals "Unreadable" = some (some (.ref C_Unreadable)))
    (eS : PySem.W.subIn K (.ref C_SortError) (.type "BaseException") = some true)
    (hS : PySem.W.hasDictIn K C_SortError = true)
    (tS : PySem.W.typeIn K (.ref C_SortError) = some (.type "type"))
    (nX : PySem.W.specialIn K (.builtin "object.__class__") "__get__" = some (some (.builtin "getset_descriptor.__get__")))
    (uX : PySem.W.takesIn K (.builtin "object.__class__") = some true)
    (aX_InvalidCommand : PySem.W.findIn K (.ref C_InvalidCommand) "__class__" = some (some (.builtin "object.__class__")))
    (mX_InvalidCommand : PySem.W.mroIn K C_InvalidCommand (.type "object") = some true)
    (is_InvalidCommand_InvalidCommand : PySem.W.kitOne K (.ref C_InvalidCommand) (.ref C_InvalidCommand) = some true)
    (is_InvalidCommand_InvalidNumber : PySem.W.kitOne K (.ref C_InvalidCommand) (.ref C_InvalidNumber) = some false)
    (is_InvalidCommand_InvalidRow : PySem.W.kitOne K (.ref C_InvalidCommand) (.ref C_InvalidRow) = some false)
    (is_InvalidCommand_InvalidSize : PySem.W.kitOne K (.ref C_InvalidCommand) (.ref C_InvalidSize) = some false)
    (is_InvalidCommand_NothingToUndo : PySem.W.kitOne K (.ref C_InvalidCommand) (.ref C_NothingToUndo) = some false)
    (is_InvalidCommand_SortError : PySem.W.kitOne K (.ref C_InvalidCommand) (.ref C_SortError) = some true)
    (is_InvalidCommand_UnequalSizes : PySem.W.kitOne K (.ref C_InvalidCommand) (.ref C_UnequalSizes) = some false)
    (is_InvalidCommand_Unreadable : PySem.W.kitOne K (.ref C_InvalidCommand) (.ref C_Unreadable) = some false)
    (is_InvalidCommand_ValueError : PySem.W.kitOne K (.ref C_InvalidCommand) (.type "ValueError") = some true)
    (aX_InvalidNumber : PySem.W.findIn K (.ref C_InvalidNumber) "__class__" = some (some (.builtin "object.__class__")))
    (mX_InvalidNumber : PySem.W.mroIn K C_InvalidNumber (.type "object") = some true)
    (is_InvalidNumber_InvalidCommand : PySem.W.kitOne K (.ref C_InvalidNumber) (.ref C_InvalidCommand) = some false)
    (is_InvalidNumber_InvalidNumber : PySem.W.kitOne K (.ref C_InvalidNumber) (.ref C_InvalidNumber) = some true)
    (is_InvalidNumber_InvalidRow : PySem.W.kitOne K (.ref C_InvalidNumber) (.ref C_InvalidRow) = some false)
    (is_InvalidNumber_InvalidSize : PySem.W.kitOne K (.ref C_InvalidNumber) (.ref C_InvalidSize) = some false)
    (is_InvalidNumber_NothingToUndo : PySem.W.kitOne K (.ref C_InvalidNumber) (.ref C_NothingToUndo) = some false)
    (is_InvalidNumber_SortError : PySem.W.kitOne K (.ref C_InvalidNumber) (.ref C_SortError) = some true)
    (is_InvalidNumber_UnequalSizes : PySem.W.kitOne K (.ref C_InvalidNumber) (.ref C_UnequalSizes) = some false)
    (is_InvalidNumber_Unreadable : PySem.W.kitOne K (.ref C_InvalidNumber) (.ref C_Unreadable) = some false)
    (is_InvalidNumber_ValueError : PySem.W.kitOne K (.ref C_InvalidNumber) (.type "ValueError") = some true)
    (aX_InvalidRow : PySem.W.findIn K (.ref C_InvalidRow) "__class__" = some (some (.builtin "object.__class__")))
    (mX_InvalidRow : PySem.W.mroIn K C_InvalidRow (.type "object") = some true)
    (is_InvalidRow_InvalidCommand : PySem.W.kitOne K (.ref C_InvalidRow) (.ref C_InvalidCommand) = some false)
    (is_InvalidRow_InvalidNumber : PySem.W.kitOne K (.ref C_InvalidRow) (.ref C_InvalidNumber) = some false)
    (is_InvalidRow_InvalidRow : PySem.W.kitOne K (.ref C_InvalidRow) (.ref C_InvalidRow) = some true)
    (is_InvalidRow_InvalidSize : PySem.W.kitOne K (.ref C_InvalidRow) (.ref C_InvalidSize) = some false)
    (is_InvalidRow_NothingToUndo : PySem.W.kitOne K (.ref C_InvalidRow) (.ref C_NothingToUndo) = some false)
    (is_InvalidRow_SortError : PySem.W.kitOne K (.ref C_InvalidRow) (.ref C_SortError) = some true)
    (is_InvalidRow_UnequalSizes : PySem.W.kitOne K (.ref C_InvalidRow) (.ref C_UnequalSizes) = some false)
    (is_InvalidRow_Unreadable : PySem.W.kitOne K (.ref C_InvalidRow) (.ref C_Unreadable) = some false)
    (is_InvalidRow_ValueError : PySem.W.kitOne K (.ref C_InvalidRow) (.type "ValueError") = some true)
    (aX_InvalidSize : PySem.W.findIn K (.ref C_InvalidSize) "__class__" = some (some (.builtin "object.__class__")))
    (mX_InvalidSize : PySem.W.mroIn K C_InvalidSize (.type "object") = some true)
    (is_InvalidSize_InvalidCommand : PySem.W.kitOne K (.ref C_InvalidSize) (.ref C_InvalidCommand) = some false)
    (is_InvalidSize_InvalidNumber : PySem.W.kitOne K (.ref C_InvalidSize) (.ref C_InvalidNumber) = some false)
    (is_InvalidSize_InvalidRow : PySem.W.kitOne K (.ref C_InvalidSize) (.ref C_InvalidRow) = some false)
    (is_InvalidSize_InvalidSize : PySem.W.kitOne K (.ref C_InvalidSize) (.ref C_InvalidSize) = some true)
    (is_InvalidSize_NothingToUndo : PySem.W.kitOne K (.ref C_InvalidSize) (.ref C_NothingToUndo) = some false)
    (is_InvalidSize_SortError : PySem.W.kitOne K (.ref C_InvalidSize) (.ref C_SortError) = some true)
    (is_InvalidSize_UnequalSizes : PySem.W.kitOne K (.ref C_InvalidSize) (.ref C_UnequalSizes) = some false)
    (is_InvalidSize_Unreadable : PySem.W.kitOne K (.ref C_InvalidSize) (.ref C_Unreadable) = some false)
    (is_InvalidSize_ValueError : PySem.W.kitOne K (.ref C_InvalidSize) (.type "ValueError") = some true)
    (aX_NothingToUndo : PySem.W.findIn K (.ref C_NothingToUndo) "__class__" = some (some (.builtin "object.__class__")))
    (mX_NothingToUndo : PySem.W.mroIn K C_NothingToUndo (.type "object") = some true)
    (is_NothingToUndo_InvalidCommand : PySem.W.kitOne K (.ref C_NothingToUndo) (.ref C_InvalidCommand) = some false)
    (is_NothingToUndo_InvalidNumber : PySem.W.kitOne K (.ref C_NothingToUndo) (.ref C_InvalidNumber) = some false)
    (is_NothingToUndo_InvalidRow : PySem.W.kitOne K (.ref C_NothingToUndo) (.ref C_InvalidRow) = some false)
    (is_NothingToUndo_InvalidSize : PySem.W.kitOne K (.ref C_NothingToUndo) (.ref C_InvalidSize) = some false)
    (is_NothingToUndo_NothingToUndo : PySem.W.kitOne K (.ref C_NothingToUndo) (.ref C_NothingToUndo) = some true)
    (is_NothingToUndo_SortError : PySem.W.kitOne K (.ref C_NothingToUndo) (.ref C_SortError) = some true)
    (is_NothingToUndo_UnequalSizes : PySem.W.kitOne K (.ref C_NothingToUndo) (.ref C_UnequalSizes) = some false)
    (is_NothingToUndo_Unreadable : PySem.W.kitOne K (.ref C_NothingToUndo) (.ref C_Unreadable) = some false)
    (is_NothingToUndo_ValueError : PySem.W.kitOne K (.ref C_NothingToUndo) (.type "ValueError") = some true)
    (aX_UnequalSizes : PySem.W.findIn K (.ref C_UnequalSizes) "__class__" = some (some (.builtin "object.__class__")))
    (mX_UnequalSizes : PySem.W.mroIn K C_UnequalSizes (.type "object") = some true)
    (is_UnequalSizes_InvalidCommand : PySem.W.kitOne K (.ref C_UnequalSizes) (.ref C_InvalidCommand) = some false)
    (is_UnequalSizes_InvalidNumber : PySem.W.kitOne K (.ref C_UnequalSizes) (.ref C_InvalidNumber) = some false)
    (is_UnequalSizes_InvalidRow : PySem.W.kitOne K (.ref C_UnequalSizes) (.ref C_InvalidRow) = some false)
    (is_UnequalSizes_InvalidSize : PySem.W.kitOne K (.ref C_UnequalSizes) (.ref C_InvalidSize) = some false)
    (is_UnequalSizes_NothingToUndo : PySem.W.kitOne K (.ref C_UnequalSizes) (.ref C_NothingToUndo) = some false)
    (is_UnequalSizes_SortError : PySem.W.kitOne K (.ref C_UnequalSizes) (.ref C_SortError) = some true)
    (is_UnequalSizes_UnequalSizes : PySem.W.kitOne K (.ref C_UnequalSizes) (.ref C_UnequalSizes) = some true)
    (is_UnequalSizes_Unreadable : PySem.W.kitOne K (.ref C_UnequalSizes) (.ref C_Unreadable) = some false)
    (is_UnequalSizes_ValueError : PySem.W.kitOne K (.ref C_UnequalSizes) (.type "ValueError") = some true)
    (aX_Unreadable : PySem.W.findIn K (.ref C_Unreadable) "__class__" = some (some (.builtin "object.__class__")))
    (mX_Unreadable : PySem.W.mroIn K C_Unreadable (.type "object") = some true)
    (is_Unreadable_InvalidCommand : PySem.W.kitOne K (.ref C_Unreadable) (.ref C_InvalidCommand) = some false)
    (is_Unreadable_InvalidNumber : PySem.W.kitOne K (.ref C_Unreadable) (.ref C_InvalidNumber) = some false)
    (is_Unreadable_InvalidRow : PySem.W.kitOne K (.ref C_Unreadable) (.ref C_InvalidRow) = some false)
    (is_Unreadable_InvalidSize : PySem.W.kitOne K (.ref C_Unreadable) (.ref C_InvalidSize) = some false)
    (is_Unreadable_NothingToUndo : PySem.W.kitOne K (.ref C_Unreadable) (.ref C_NothingToUndo) = some false)
    (is_Unreadable_SortError : PySem.W.kitOne K (.ref C_Unreadable) (.ref C_SortError) = some true)
    (is_Unreadable_UnequalSizes : PySem.W.kitOne K (.ref C_Unreadable) (.ref C_UnequalSizes) = some false)
    (is_Unreadable_Unreadable : PySem.W.kitOne K (.ref C_Unreadable) (.ref C_Unreadable) = some true)
    (is_Unreadable_ValueError : PySem.W.kitOne K (.ref C_Unreadable) (.type "ValueError") = some true)
    (xL_InvalidCommand : K.lookup C_InvalidCommand = some (excClassObj nm_InvalidCommand qn_InvalidCommand C_InvalidCommand N_InvalidCommand bs_InvalidCommand [.ref CSE, .type "ValueError", .type "Exception", .type "BaseException", .type "object"] true sn_InvalidCommand sub_InvalidCommand ab_InvalidCommand col_InvalidCommand dd_InvalidCommand m0_InvalidCommand m1_InvalidCommand m2_InvalidCommand m3_InvalidCommand m5_InvalidCommand "ValueError.__new__"))
    (sa_InvalidCommand : PySem.W.findIn K (.ref C_InvalidCommand) "__setattr__" = some (some (.builtin "object.__setattr__")))
    (ga_InvalidCommand : PySem.W.findIn K (.ref C_InvalidCommand) "__getattribute__" = some (some (.builtin "BaseException.__getattribute__")))
    (gg_InvalidCommand : PySem.W.findIn K (.ref C_InvalidCommand) "__getattr__" = some none)
    (nb_InvalidCommand : PySem.W.findIn K (.ref C_InvalidCommand) "value" = some none)
    (iC_InvalidCommand : PySem.W.findIn K (.ref C_InvalidCommand) "__init__" = some (some (.ref ci_InvalidCommand)))
    (tI_InvalidCommand : PySem.W.typeIn K (.ref ci_InvalidCommand) = some (.type "function"))
    (lI_InvalidCommand : K.lookup ci_InvalidCommand = some ⟨oci_InvalidCommand, odi_InvalidCommand, .func (PySem.W.fnOf "__init__" "InvalidCommand.__init__" (defArgs s_InvalidCommand_i) (defBody s_InvalidCommand_i) (defScope s_InvalidCommand_i) .none kVi_InvalidCommand dci_InvalidCommand pmi_InvalidCommand ani_InvalidCommand cdi_InvalidCommand cti_InvalidCommand), sli_InvalidCommand⟩)
    (cI_InvalidCommand : PySem.W.codeIn K cdi_InvalidCommand "InvalidCommand.__init__" = true)
    (kI_InvalidCommand : PySem.W.keepIn K (.ref ci_InvalidCommand) = true)
    (kC_InvalidCommand : PySem.W.keepIn K (.ref C_InvalidCommand) = true)
    (eC_InvalidCommand : PySem.W.subIn K (.ref C_InvalidCommand) (.type "BaseException") = some true)
    (tC_InvalidCommand : PySem.W.typeIn K (.ref C_InvalidCommand) = some (.type "type"))
    (hC_InvalidCommand : PySem.W.hasDictIn K C_InvalidCommand = true)
    (sC_InvalidCommand : PySem.W.subIn K (.ref C_InvalidCommand) (.ref C_SortError) = some true)
    (st_InvalidCommand : PySem.W.subIn K (.ref C_InvalidCommand) (.type "StopIteration") = some false)
    (xL_InvalidNumber : K.lookup C_InvalidNumber = some (excClassObj nm_InvalidNumber qn_InvalidNumber C_InvalidNumber N_InvalidNumber bs_InvalidNumber [.ref CSE, .type "ValueError", .type "Exception", .type "BaseException", .type "object"] true sn_InvalidNumber sub_InvalidNumber ab_InvalidNumber col_InvalidNumber dd_InvalidNumber m0_InvalidNumber m1_InvalidNumber m2_InvalidNumber m3_InvalidNumber m5_InvalidNumber "ValueError.__new__"))
    (sa_InvalidNumber : PySem.W.findIn K (.ref C_InvalidNumber) "__setattr__" = some (some (.builtin "object.__setattr__")))
    (ga_InvalidNumber : PySem.W.findIn K (.ref C_InvalidNumber) "__getattribute__" = some (some (.builtin "BaseException.__getattribute__")))
    (gg_InvalidNumber : PySem.W.findIn K (.ref C_InvalidNumber) "__getattr__" = some none)
    (nb_InvalidNumber : PySem.W.findIn K (.ref C_InvalidNumber) "value" = some none)
    (iC_InvalidNumber : PySem.W.findIn K (.ref C_InvalidNumber) "__init__" = some (some (.ref ci_InvalidNumber)))
    (tI_InvalidNumber : PySem.W.typeIn K (.ref ci_InvalidNumber) = some (.type "function"))
    (lI_InvalidNumber : K.lookup ci_InvalidNumber = some ⟨oci_InvalidNumber, odi_InvalidNumber, .func (PySem.W.fnOf "__init__" "InvalidNumber.__init__" (defArgs s_InvalidNumber_i) (defBody s_InvalidNumber_i) (defScope s_InvalidNumber_i) .none kVi_InvalidNumber dci_InvalidNumber pmi_InvalidNumber ani_InvalidNumber cdi_InvalidNumber cti_InvalidNumber), sli_InvalidNumber⟩)
    (cI_InvalidNumber : PySem.W.codeIn K cdi_InvalidNumber "InvalidNumber.__init__" = true)
    (kI_InvalidNumber : PySem.W.keepIn K (.ref ci_InvalidNumber) = true)
    (kC_InvalidNumber : PySem.W.keepIn K (.ref C_InvalidNumber) = true)
    (eC_InvalidNumber : PySem.W.subIn K (.ref C_InvalidNumber) (.type "BaseException") = some true)
    (tC_InvalidNumber : PySem.W.typeIn K (.ref C_InvalidNumber) = some (.type "type"))
    (hC_InvalidNumber : PySem.W.hasDictIn K C_InvalidNumber = true)
    (sC_InvalidNumber : PySem.W.subIn K (.ref C_InvalidNumber) (.ref C_SortError) = some true)
    (st_InvalidNumber : PySem.W.subIn K (.ref C_InvalidNumber) (.type "StopIteration") = some false)
    (xL_InvalidRow : K.lookup C_InvalidRow = some (excClassObj nm_InvalidRow qn_InvalidRow C_InvalidRow N_InvalidRow bs_InvalidRow [.ref CSE, .type "ValueError", .type "Exception", .type "BaseException", .type "object"] true sn_InvalidRow sub_InvalidRow ab_InvalidRow col_InvalidRow dd_InvalidRow m0_InvalidRow m1_InvalidRow m2_InvalidRow m3_InvalidRow m5_InvalidRow "ValueError.__new__"))
    (sa_InvalidRow : PySem.W.findIn K (.ref C_InvalidRow) "__setattr__" = some (some (.builtin "object.__setattr__")))
    (ga_InvalidRow : PySem.W.findIn K (.ref C_InvalidRow) "__getattribute__" = some (some (.builtin "BaseException.__getattribute__")))
    (gg_InvalidRow : PySem.W.findIn K (.ref C_InvalidRow) "__getattr__" = some none)
    (nb_InvalidRow : PySem.W.findIn K (.ref C_InvalidRow) "value" = some none)
    (iC_InvalidRow : PySem.W.findIn K (.ref C_InvalidRow) "__init__" = some (some (.ref ci_InvalidRow)))
    (tI_InvalidRow : PySem.W.typeIn K (.ref ci_InvalidRow) = some (.type "function"))
    (lI_InvalidRow : K.lookup ci_InvalidRow = some ⟨oci_InvalidRow, odi_InvalidRow, .func (PySem.W.fnOf "__init__" "InvalidRow.__init__" (defArgs s_InvalidRow_i) (defBody s_InvalidRow_i) (defScope s_InvalidRow_i) .none kVi_InvalidRow dci_InvalidRow pmi_InvalidRow ani_InvalidRow cdi_InvalidRow cti_InvalidRow), sli_InvalidRow⟩)
    (cI_InvalidRow : PySem.W.codeIn K cdi_InvalidRow "InvalidRow.__init__" = true)
    (kI_InvalidRow : PySem.W.keepIn K (.ref ci_InvalidRow) = true)
    (kC_InvalidRow : PySem.W.keepIn K (.ref C_InvalidRow) = true)
    (eC_InvalidRow : PySem.W.subIn K (.ref C_InvalidRow) (.type "BaseException") = some true)
    (tC_InvalidRow : PySem.W.typeIn K (.ref C_InvalidRow) = some (.type "type"))
    (hC_InvalidRow : PySem.W.hasDictIn K C_InvalidRow = true)
    (sC_InvalidRow : PySem.W.subIn K (.ref C_InvalidRow) (.ref C_SortError) = some true)
    (st_InvalidRow : PySem.W.subIn K (.ref C_InvalidRow) (.type "StopIteration") = some false)
    (xL_InvalidSize : K.lookup C_InvalidSize = some (excClassObj nm_InvalidSize qn_InvalidSize C_InvalidSize N_InvalidSize bs_InvalidSize [.ref CSE, .type "ValueError", .type "Exception", .type "BaseException", .type "object"] true sn_InvalidSize sub_InvalidSize ab_InvalidSize col_InvalidSize dd_InvalidSize m0_InvalidSize m1_InvalidSize m2_InvalidSize m3_InvalidSize m5_InvalidSize "ValueError.__new__"))
    (sa_InvalidSize : PySem.W.findIn K (.ref C_InvalidSize) "__setattr__" = some (some (.builtin "object.__setattr__")))
    (ga_InvalidSize : PySem.W.findIn K (.ref C_InvalidSize) "__getattribute__" = some (some (.builtin "BaseException.__getattribute__")))
    (gg_InvalidSize : PySem.W.findIn K (.ref C_InvalidSize) "__getattr__" = some none)
    (nb_InvalidSize : PySem.W.findIn K (.ref C_InvalidSize) "value" = some none)
    (iC_InvalidSize : PySem.W.findIn K (.ref C_InvalidSize) "__init__" = some (some (.ref ci_InvalidSize)))
    (tI_InvalidSize : PySem.W.typeIn K (.ref ci_InvalidSize) = some (.type "function"))
    (lI_InvalidSize : K.lookup ci_InvalidSize = some ⟨oci_InvalidSize, odi_InvalidSize, .func (PySem.W.fnOf "__init__" "InvalidSize.__init__" (defArgs s_InvalidSize_i) (defBody s_InvalidSize_i) (defScope s_InvalidSize_i) .none kVi_InvalidSize dci_InvalidSize pmi_InvalidSize ani_InvalidSize cdi_InvalidSize cti_InvalidSize), sli_InvalidSize⟩)
    (cI_InvalidSize : PySem.W.codeIn K cdi_InvalidSize "InvalidSize.__init__" = true)
    (kI_InvalidSize : PySem.W.keepIn K (.ref ci_InvalidSize) = true)
    (kC_InvalidSize : PySem.W.keepIn K (.ref C_InvalidSize) = true)
    (eC_InvalidSize : PySem.W.subIn K (.ref C_InvalidSize) (.type "BaseException") = some true)
    (tC_InvalidSize : PySem.W.typeIn K (.ref C_InvalidSize) = some (.type "type"))
    (hC_InvalidSize : PySem.W.hasDictIn K C_InvalidSize = true)
    (sC_InvalidSize : PySem.W.subIn K (.ref C_InvalidSize) (.ref C_SortError) = some true)
    (st_InvalidSize : PySem.W.subIn K (.ref C_InvalidSize) (.type "StopIteration") = some false)
    (xL_NothingToUndo : K.lookup C_NothingToUndo = some (excClassObj nm_NothingToUndo qn_NothingToUndo C_NothingToUndo N_NothingToUndo bs_NothingToUndo [.ref CSE, .type "ValueError", .type "Exception", .type "BaseException", .type "object"] true sn_NothingToUndo sub_NothingToUndo ab_NothingToUndo col_NothingToUndo dd_NothingToUndo m0_NothingToUndo m1_NothingToUndo m2_NothingToUndo m3_NothingToUndo m5_NothingToUndo "ValueError.__new__"))
    (sa_NothingToUndo : PySem.W.findIn K (.ref C_NothingToUndo) "__setattr__" = some (some (.builtin "object.__setattr__")))
    (ga_NothingToUndo : PySem.W.findIn K (.ref C_NothingToUndo) "__getattribute__" = some (some (.builtin "BaseException.__getattribute__")))
    (gg_NothingToUndo : PySem.W.findIn K (.ref C_NothingToUndo) "__getattr__" = some none)
    (nb_NothingToUndo : PySem.W.findIn K (.ref C_NothingToUndo) "value" = some none)
    (iC_NothingToUndo : PySem.W.findIn K (.ref C_NothingToUndo) "__init__" = some (some (.ref ci_NothingToUndo)))
    (tI_NothingToUndo : PySem.W.typeIn K (.ref ci_NothingToUndo) = some (.type "function"))
    (lI_NothingToUndo : K.lookup ci_NothingToUndo = some ⟨oci_NothingToUndo, odi_NothingToUndo, .func (PySem.W.fnOf "__init__" "NothingToUndo.__init__" (defArgs s_NothingToUndo_i) (defBody s_NothingToUndo_i) (defScope s_NothingToUndo_i) .none kVi_NothingToUndo dci_NothingToUndo pmi_NothingToUndo ani_NothingToUndo cdi_NothingToUndo cti_NothingToUndo), sli_NothingToUndo⟩)
    (cI_NothingToUndo : PySem.W.codeIn K cdi_NothingToUndo "NothingToUndo.__init__" = true)
    (kI_NothingToUndo : PySem.W.keepIn K (.ref ci_NothingToUndo) = true)
    (kC_NothingToUndo : PySem.W.keepIn K (.ref C_NothingToUndo) = true)
    (eC_NothingToUndo : PySem.W.subIn K (.ref C_NothingToUndo) (.type "BaseException") = some true)
    (tC_NothingToUndo : PySem.W.typeIn K (.ref C_NothingToUndo) = some (.type "type"))
    (hC_NothingToUndo : PySem.W.hasDictIn K C_NothingToUndo = true)
    (sC_NothingToUndo : PySem.W.subIn K (.ref C_NothingToUndo) (.ref C_SortError) = some true)
    (st_NothingToUndo : PySem.W.subIn K (.ref C_NothingToUndo) (.type "StopIteration") = some false)
    (xL_UnequalSizes : K.lookup C_UnequalSizes = some (excClassObj nm_UnequalSizes qn_UnequalSizes C_UnequalSizes N_UnequalSizes bs_UnequalSizes [.ref CSE, .type "ValueError", .type "Exception", .type "BaseException", .type "object"] true sn_UnequalSizes sub_UnequalSizes ab_UnequalSizes col_UnequalSizes dd_UnequalSizes m0_UnequalSizes m1_UnequalSizes m2_UnequalSizes m3_UnequalSizes m5_UnequalSizes "ValueError.__new__"))
    (sa_UnequalSizes : PySem.W.findIn K (.ref C_UnequalSizes) "__setattr__" = some (some (.builtin "object.__setattr__")))
    (ga_UnequalSizes : PySem.W.findIn K (.ref C_UnequalSizes) "__getattribute__" = some (some (.builtin "BaseException.__getattribute__")))
    (gg_UnequalSizes : PySem.W.findIn K (.ref C_UnequalSizes) "__getattr__" = some none)
    (nb_UnequalSizes : PySem.W.findIn K (.ref C_UnequalSizes) "value" = some none)
    (iC_UnequalSizes : PySem.W.findIn K (.ref C_UnequalSizes) "__init__" = some (some (.ref ci_UnequalSizes)))
    (tI_UnequalSizes : PySem.W.typeIn K (.ref ci_UnequalSizes) = some (.type "function"))
    (lI_UnequalSizes : K.lookup ci_UnequalSizes = some ⟨oci_UnequalSizes, odi_UnequalSizes, .func (PySem.W.fnOf "__init__" "UnequalSizes.__init__" (defArgs s_UnequalSizes_i) (defBody s_UnequalSizes_i) (defScope s_UnequalSizes_i) .none kVi_UnequalSizes dci_UnequalSizes pmi_UnequalSizes ani_UnequalSizes cdi_UnequalSizes cti_UnequalSizes), sli_UnequalSizes⟩)
    (cI_UnequalSizes : PySem.W.codeIn K cdi_UnequalSizes "UnequalSizes.__init__" = true)
    (kI_UnequalSizes : PySem.W.keepIn K (.ref ci_UnequalSizes) = true)
    (kC_UnequalSizes : PySem.W.keepIn K (.ref C_UnequalSizes) = true)
    (eC_UnequalSizes : PySem.W.subIn K (.ref C_UnequalSizes) (.type "BaseException") = some true)
    (tC_UnequalSizes : PySem.W.typeIn K (.ref C_UnequalSizes) = some (.type "type"))
    (hC_UnequalSizes : PySem.W.hasDictIn K C_UnequalSizes = true)
    (sC_UnequalSizes : PySem.W.subIn K (.ref C_UnequalSizes) (.ref C_SortError) = some true)
    (st_UnequalSizes : PySem.W.subIn K (.ref C_UnequalSizes) (.type "StopIteration") = some false)
    (xL_Unreadable : K.lookup C_Unreadable = some (excClassObj nm_Unreadable qn_Unreadable C_Unreadable N_Unreadable bs_Unreadable [.ref CSE, .type "ValueError", .type "Exception", .type "BaseException", .type "object"] true sn_Unreadable sub_Unreadable ab_Unreadable col_Unreadable dd_Unreadable m0_Unreadable m1_Unreadable m2_Unreadable m3_Unreadable m5_Unreadable "ValueError.__new__"))
    (sa_Unreadable : PySem.W.findIn K (.ref C_Unreadable) "__setattr__" = some (some (.builtin "object.__setattr__")))
    (ga_Unreadable : PySem.W.findIn K (.ref C_Unreadable) "__getattribute__" = some (some (.builtin "BaseException.__getattribute__")))
    (gg_Unreadable : PySem.W.findIn K (.ref C_Unreadable) "__getattr__" = some none)
    (nb_Unreadable : PySem.W.findIn K (.ref C_Unreadable) "value" = some none)
    (iC_Unreadable : PySem.W.findIn K (.ref C_Unreadable) "__init__" = some (some (.ref ci_Unreadable)))
    (tI_Unreadable : PySem.W.typeIn K (.ref ci_Unreadable) = some (.type "function"))
    (lI_Unreadable : K.lookup ci_Unreadable = some ⟨oci_Unreadable, odi_Unreadable, .func (PySem.W.fnOf "__init__" "Unreadable.__init__" (defArgs s_Unreadable_i) (defBody s_Unreadable_i) (defScope s_Unreadable_i) .none kVi_Unreadable dci_Unreadable pmi_Unreadable ani_Unreadable cdi_Unreadable cti_Unreadable), sli_Unreadable⟩)
    (cI_Unreadable : PySem.W.codeIn K cdi_Unreadable "Unreadable.__init__" = true)
    (kI_Unreadable : PySem.W.keepIn K (.ref ci_Unreadable) = true)
    (kC_Unreadable : PySem.W.keepIn K (.ref C_Unreadable) = true)
    (eC_Unreadable : PySem.W.subIn K (.ref C_Unreadable) (.type "BaseException") = some true)
    (tC_Unreadable : PySem.W.typeIn K (.ref C_Unreadable) = some (.type "type"))
    (hC_Unreadable : PySem.W.hasDictIn K C_Unreadable = true)
    (sC_Unreadable : PySem.W.subIn K (.ref C_Unreadable) (.ref C_SortError) = some true)
    (st_Unreadable : PySem.W.subIn K (.ref C_Unreadable) (.type "StopIteration") = some false)
    (z_ValueError : PySem.W.nsIn K mainGlobals "ValueError" = some none) (z_abs : PySem.W.nsIn K mainGlobals "abs" = some none) (z_enumerate : PySem.W.nsIn K mainGlobals "enumerate" = some none) (z_isinstance : PySem.W.nsIn K mainGlobals "isinstance" = some none) (z_len : PySem.W.nsIn K mainGlobals "len" = some none) (z_list : PySem.W.nsIn K mainGlobals "list" = some none) (z_min : PySem.W.nsIn K mainGlobals "min" = some none) (z_range : PySem.W.nsIn K mainGlobals "range" = some none) (z_repr : PySem.W.nsIn K mainGlobals "repr" = some none) (z_set : PySem.W.nsIn K mainGlobals "set" = some none) (z_sorted : PySem.W.nsIn K mainGlobals "sorted" = some none) (z_zip : PySem.W.nsIn K mainGlobals "zip" = some none) :
    ∃ fd : FuncData, (∀ (s : Shared) (v : Value), BindsTo s fd ⟨[v], []⟩ [("script", v)]) ∧ ∀ base : Heap, K.In base → base.Ns mainGlobals mg → FnG l.prog w K mg base CX0 10 fa fd ["script"] (sp_law K) := by
  have e := hfa.symm.trans (PySem.W.mg_of X G a19)
  cases e
  have F0 := fun_mk (st := s_sort_stretches) l0 c0 k0
  have b0 := F0.binds (ps := ["row", "commands"]) fun _ _ _ _ _ _ us hl => match us, hl with | [_, _], _ => rfl
  have F1 := fun_mk (st := s_inversions) l1 c1 k1
  have b1 := F1.binds (ps := ["row"]) fun _ _ _ _ _ _ us hl => match us, hl with | [_], _ => rfl
  have F2 := fun_mk (st := s_law_rng) l2 c2 k2
  have b2 := F2.binds (ps := ["script"]) fun _ _ _ _ _ _ us hl => match us, hl with | [_], _ => rfl
  have F3 := fun_mk (st := s_law_draw) l3 c3 k3
  have b3 := F3.binds (ps := ["rng", "limit"]) fun _ _ _ _ _ _ us hl => match us, hl with | [_, _], _ => rfl
  have F4 := fun_mk (st := s_law_kind) l4 c4 k4
  have b4 := F4.binds (ps := ["caught"]) fun _ _ _ _ _ _ us hl => match us, hl with | [_], _ => rfl
  have F5 := fun_mk (st := s_law_commands) l5 c5 k5
  have b5 := F5.binds (ps := ["rng", "wide", "most"]) fun _ _ _ _ _ _ us hl => match us, hl with | [_, _, _], _ => rfl
  have F6 := fun_mk (st := s_law_arranged) l6 c6 k6
  have b6 := F6.binds (ps := ["rng", "wide"]) fun _ _ _ _ _ _ us hl => match us, hl with | [_, _], _ => rfl
  have F7 := fun_mk (st := s_law_bad_commands) l7 c7 k7
  have b7 := F7.binds (ps := ["rng", "wide", "some"]) fun _ _ _ _ _ _ us hl => match us, hl with | [_, _, _], _ => rfl
  have F8 := fun_mk (st := s_law_bad_row) l8 c8 k8
  have b8 := F8.binds (ps := ["rng", "line"]) fun _ _ _ _ _ _ us hl => match us, hl with | [_, _], _ => rfl
  have F9 := fun_mk (st := s_check_size) l9 c9 k9
  have b9 := F9.binds (ps := ["size"]) fun _ _ _ _ _ _ us hl => match us, hl with | [_], _ => rfl
  have F10 := fun_mk (st := s_check_script) l10 c10 k10
  have b10 := F10.binds (ps := ["size", "commands"]) fun _ _ _ _ _ _ us hl => match us, hl with | [_, _], _ => rfl
  have F11 := fun_mk (st := s_check_arrangement) l11 c11 k11
  have b11 := F11.binds (ps := ["row"]) fun _ _ _ _ _ _ us hl => match us, hl with | [_], _ => rfl
  have F12 := fun_mk (st := s_check_sized_script) l12 c12 k12
  have b12 := F12.binds (ps := ["size", "commands"]) fun _ _ _ _ _ _ us hl => match us, hl with | [_, _], _ => rfl
  have F13 := fun_mk (st := s_is_at_most) l13 c13 k13
  have b13 := F13.binds (ps := ["first", "second"]) fun _ _ _ _ _ _ us hl => match us, hl with | [_, _], _ => rfl
  have F14 := fun_mk (st := s_law_built_right) l14 c14 k14
  have b14 := F14.binds (ps := ["thing"]) fun _ _ _ _ _ _ us hl => match us, hl with | [_], _ => rfl
  have F15 := fun_mk (st := s_run) l15 c15 k15
  have b15 := F15.binds (ps := ["row", "commands"]) fun _ _ _ _ _ _ us hl => match us, hl with | [_, _], _ => rfl
  have F16 := fun_mk (st := s_stages) l16 c16 k16
  have b16 := F16.binds (ps := ["row", "commands"]) fun _ _ _ _ _ _ us hl => match us, hl with | [_, _], _ => rfl
  have F17 := fun_mk (st := s_law_told) l17 c17 k17
  have b17 := F17.binds (ps := ["way", "one", "other"]) fun _ _ _ _ _ _ us hl => match us, hl with | [_, _, _], _ => rfl
  have F18 := fun_mk (st := s_law_first) l18 c18 k18
  have b18 := F18.binds (ps := ["one", "other"]) fun _ _ _ _ _ _ us hl => match us, hl with | [_, _], _ => rfl
  have F19 := fun_mk (st := s_law) l19 c19 k19
  have b19 := F19.binds (ps := ["script"]) fun _ _ _ _ _ _ us hl => match us, hl with | [_], _ => rfl
  have kb_is_at_most_second_first : KBinds K (PySem.W.fnOf "is_at_most" "is_at_most" (defArgs s_is_at_most) (defBody s_is_at_most) (defScope s_is_at_most) .none kV13 dc13 pm13 an13 cd13 ct13) ["first", "second"] ["second", "first"] (fun (us ws : List Value) => match us, ws with | [], [w0, w1] => [w1, w0] | _, _ => []) (fun (us ws : List V) => match us, ws with | [], [w0, w1] => [w1, w0] | _, _ => []) := by
    refine ⟨fun s us ws _ hl => ?_, fun {vs us zs ws} h1 h2 => ?_⟩
    · revert hl; (try dsimp only); split
      · intro _; exact .of_eq rfl
      · intro hl; cases hl
    · rcases h1 with _ | ⟨p1, _ | ⟨p2, _ | ⟨p3, h1⟩⟩⟩ <;> rcases h2 with _ | ⟨q1, _ | ⟨q2, _ | ⟨q3, h2⟩⟩⟩ <;> ((try dsimp only); repeat (first | exact .nil | refine .cons (by assumption) ?_))
  have kb_run_commands_row : KBinds K (PySem.W.fnOf "run" "run" (defArgs s_run) (defBody s_run) (defScope s_run) .none kV15 dc15 pm15 an15 cd15 ct15) ["row", "commands"] ["commands", "row"] (fun (us ws : List Value) => match us, ws with | [], [w0, w1] => [w1, w0] | _, _ => []) (fun (us ws : List V) => match us, ws with | [], [w0, w1] => [w1, w0] | _, _ => []) := by
    refine ⟨fun s us ws _ hl => ?_, fun {vs us zs ws} h1 h2 => ?_⟩
    · revert hl; (try dsimp only); split
      · intro _; exact .of_eq rfl
      · intro hl; cases hl
    · rcases h1 with _ | ⟨p1, _ | ⟨p2, _ | ⟨p3, h1⟩⟩⟩ <;> rcases h2 with _ | ⟨q1, _ | ⟨q2, _ | ⟨q3, h2⟩⟩⟩ <;> ((try dsimp only); repeat (first | exact .nil | refine .cons (by assumption) ?_))
  have FI_InvalidCommand := fun_mk (st := s_InvalidCommand_i) lI_InvalidCommand cI_InvalidCommand kI_InvalidCommand
  have bI_InvalidCommand := FI_InvalidCommand.binds (ps := ["self", "value"]) fun _ _ _ _ _ _ us hl => match us, hl with | [_, _], _ => rfl
  have kbi_InvalidCommand : KBinds K (PySem.W.fnOf "__init__" "InvalidCommand.__init__" (defArgs s_InvalidCommand_i) (defBody s_InvalidCommand_i) (defScope s_InvalidCommand_i) .none kVi_InvalidCommand dci_InvalidCommand pmi_InvalidCommand ani_InvalidCommand cdi_InvalidCommand cti_InvalidCommand) ["self", "value"] ["value"] (fun (us ws : List Value) => match us, ws with | [u0], [w0] => [u0, w0] | _, _ => []) (fun (us ws : List V) => match us, ws with | [u0], [w0] => [u0, w0] | _, _ => []) := by
    refine ⟨fun s us ws _ hl => ?_, fun {vs us zs ws} h1 h2 => ?_⟩
    · revert hl; (try dsimp only); split
      · intro _; exact .of_eq rfl
      · intro hl; cases hl
    · rcases h1 with _ | ⟨p1, _ | ⟨p2, h1⟩⟩ <;> rcases h2 with _ | ⟨q1, _ | ⟨q2, h2⟩⟩ <;> ((try dsimp only); repeat (first | exact .nil | refine .cons (by assumption) ?_))
  have E_InvalidCommand : ErrC K mg "InvalidCommand" C_SortError C_InvalidCommand ci_InvalidCommand := ⟨PySem.W.mg_of X G aC_InvalidCommand, ⟨⟨_, _, _, _, _, _, _, _, _, _, _, _, _, _, _, xL_InvalidCommand, rfl⟩, sa_InvalidCommand, eC_InvalidCommand, tC_InvalidCommand, kC_InvalidCommand⟩, iC_InvalidCommand, tI_InvalidCommand, ⟨ga_InvalidCommand, gg_InvalidCommand, eC_InvalidCommand, hC_InvalidCommand⟩, nb_InvalidCommand, PySem.W.exm_ref eS hS tS sC_InvalidCommand⟩
  have FI_InvalidNumber := fun_mk (st := s_InvalidNumber_i) lI_InvalidNumber cI_InvalidNumber kI_InvalidNumber
  have bI_InvalidNumber := FI_InvalidNumber.binds (ps := ["self", "value"]) fun _ _ _ _ _ _ us hl => match us, hl with | [_, _], _ => rfl
  have kbi_InvalidNumber : KBinds K (PySem.W.fnOf "__init__" "InvalidNumber.__init__" (defArgs s_InvalidNumber_i) (defBody s_InvalidNumber_i) (defScope s_InvalidNumber_i) .none kVi_InvalidNumber dci_InvalidNumber pmi_InvalidNumber ani_InvalidNumber cdi_InvalidNumber cti_InvalidNumber) ["self", "value"] ["value"] (fun (us ws : List Value) => match us, ws with | [u0], [w0] => [u0, w0] | _, _ => []) (fun (us ws : List V) => match us, ws with | [u0], [w0] => [u0, w0] | _, _ => []) := by
    refine ⟨fun s us ws _ hl => ?_, fun {vs us zs ws} h1 h2 => ?_⟩
    · revert hl; (try dsimp only); split
      · intro _; exact .of_eq rfl
      · intro hl; cases hl
    · rcases h1 with _ | ⟨p1, _ | ⟨p2, h1⟩⟩ <;> rcases h2 with _ | ⟨q1, _ | ⟨q2, h2⟩⟩ <;> ((try dsimp only); repeat (first | exact .nil | refine .cons (by assumption) ?_))
  have E_InvalidNumber : ErrC K mg "InvalidNumber" C_SortError C_InvalidNumber ci_InvalidNumber := ⟨PySem.W.mg_of X G aC_InvalidNumber, ⟨⟨_, _, _, _, _, _, _, _, _, _, _, _, _, _, _, xL_InvalidNumber, rfl⟩, sa_InvalidNumber, eC_InvalidNumber, tC_InvalidNumber, kC_InvalidNumber⟩, iC_InvalidNumber, tI_InvalidNumber, ⟨ga_InvalidNumber, gg_InvalidNumber, eC_InvalidNumber, hC_InvalidNumber⟩, nb_InvalidNumber, PySem.W.exm_ref eS hS tS sC_InvalidNumber⟩
  have FI_InvalidRow := fun_mk (st := s_InvalidRow_i) lI_InvalidRow cI_InvalidRow kI_InvalidRow
  have bI_InvalidRow := FI_InvalidRow.binds (ps := ["self", "value"]) fun _ _ _ _ _ _ us hl => match us, hl with | [_, _], _ => rfl
  have kbi_InvalidRow : KBinds K (PySem.W.fnOf "__init__" "InvalidRow.__init__" (defArgs s_InvalidRow_i) (defBody s_InvalidRow_i) (defScope s_InvalidRow_i) .none kVi_InvalidRow dci_InvalidRow pmi_InvalidRow ani_InvalidRow cdi_InvalidRow cti_InvalidRow) ["self", "value"] ["value"] (fun (us ws : List Value) => match us, ws with | [u0], [w0] => [u0, w0] | _, _ => []) (fun (us ws : List V) => match us, ws with | [u0], [w0] => [u0, w0] | _, _ => []) := by
    refine ⟨fun s us ws _ hl => ?_, fun {vs us zs ws} h1 h2 => ?_⟩
    · revert hl; (try dsimp only); split
      · intro _; exact .of_eq rfl
      · intro hl; cases hl
    · rcases h1 with _ | ⟨p1, _ | ⟨p2, h1⟩⟩ <;> rcases h2 with _ | ⟨q1, _ | ⟨q2, h2⟩⟩ <;> ((try dsimp only); repeat (first | exact .nil | refine .cons (by assumption) ?_))
  have E_InvalidRow : ErrC K mg "InvalidRow" C_SortError C_InvalidRow ci_InvalidRow := ⟨PySem.W.mg_of X G aC_InvalidRow, ⟨⟨_, _, _, _, _, _, _, _, _, _, _, _, _, _, _, xL_InvalidRow, rfl⟩, sa_InvalidRow, eC_InvalidRow, tC_InvalidRow, kC_InvalidRow⟩, iC_InvalidRow, tI_InvalidRow, ⟨ga_InvalidRow, gg_InvalidRow, eC_InvalidRow, hC_InvalidRow⟩, nb_InvalidRow, PySem.W.exm_ref eS hS tS sC_InvalidRow⟩
  have FI_InvalidSize := fun_mk (st := s_InvalidSize_i) lI_InvalidSize cI_InvalidSize kI_InvalidSize
  have bI_InvalidSize := FI_InvalidSize.binds (ps := ["self", "value"]) fun _ _ _ _ _ _ us hl => match us, hl with | [_, _], _ => rfl
  have kbi_InvalidSize : KBinds K (PySem.W.fnOf "__init__" "InvalidSize.__init__" (defArgs s_InvalidSize_i) (defBody s_InvalidSize_i) (defScope s_InvalidSize_i) .none kVi_InvalidSize dci_InvalidSize pmi_InvalidSize ani_InvalidSize cdi_InvalidSize cti_InvalidSize) ["self", "value"] ["value"] (fun (us ws : List Value) => match us, ws with | [u0], [w0] => [u0, w0] | _, _ => []) (fun (us ws : List V) => match us, ws with | [u0], [w0] => [u0, w0] | _, _ => []) := by
    refine ⟨fun s us ws _ hl => ?_, fun {vs us zs ws} h1 h2 => ?_⟩
    · revert hl; (try dsimp only); split
      · intro _; exact .of_eq rfl
      · intro hl; cases hl
    · rcases h1 with _ | ⟨p1, _ | ⟨p2, h1⟩⟩ <;> rcases h2 with _ | ⟨q1, _ | ⟨q2, h2⟩⟩ <;> ((try dsimp only); repeat (first | exact .nil | refine .cons (by assumption) ?_))
  have E_InvalidSize : ErrC K mg "InvalidSize" C_SortError C_InvalidSize ci_InvalidSize := ⟨PySem.W.mg_of X G aC_InvalidSize, ⟨⟨_, _, _, _, _, _, _, _, _, _, _, _, _, _, _, xL_InvalidSize, rfl⟩, sa_InvalidSize, eC_InvalidSize, tC_InvalidSize, kC_InvalidSize⟩, iC_InvalidSize, tI_InvalidSize, ⟨ga_InvalidSize, gg_InvalidSize, eC_InvalidSize, hC_InvalidSize⟩, nb_InvalidSize, PySem.W.exm_ref eS hS tS sC_InvalidSize⟩
  have FI_NothingToUndo := fun_mk (st := s_NothingToUndo_i) lI_NothingToUndo cI_NothingToUndo kI_NothingToUndo
  have bI_NothingToUndo := FI_NothingToUndo.binds (ps := ["self", "value"]) fun _ _ _ _ _ _ us hl => match us, hl with | [_, _], _ => rfl
  have kbi_NothingToUndo : KBinds K (PySem.W.fnOf "__init__" "NothingToUndo.__init__" (defArgs s_NothingToUndo_i) (defBody s_NothingToUndo_i) (defScope s_NothingToUndo_i) .none kVi_NothingToUndo dci_NothingToUndo pmi_NothingToUndo ani_NothingToUndo cdi_NothingToUndo cti_NothingToUndo) ["self", "value"] ["value"] (fun (us ws : List Value) => match us, ws with | [u0], [w0] => [u0, w0] | _, _ => []) (fun (us ws : List V) => match us, ws with | [u0], [w0] => [u0, w0] | _, _ => []) := by
    refine ⟨fun s us ws _ hl => ?_, fun {vs us zs ws} h1 h2 => ?_⟩
    · revert hl; (try dsimp only); split
      · intro _; exact .of_eq rfl
      · intro hl; cases hl
    · rcases h1 with _ | ⟨p1, _ | ⟨p2, h1⟩⟩ <;> rcases h2 with _ | ⟨q1, _ | ⟨q2, h2⟩⟩ <;> ((try dsimp only); repeat (first | exact .nil | refine .cons (by assumption) ?_))
  have E_NothingToUndo : ErrC K mg "NothingToUndo" C_SortError C_NothingToUndo ci_NothingToUndo := ⟨PySem.W.mg_of X G aC_NothingToUndo, ⟨⟨_, _, _, _, _, _, _, _, _, _, _, _, _, _, _, xL_NothingToUndo, rfl⟩, sa_NothingToUndo, eC_NothingToUndo, tC_NothingToUndo, kC_NothingToUndo⟩, iC_NothingToUndo, tI_NothingToUndo, ⟨ga_NothingToUndo, gg_NothingToUndo, eC_NothingToUndo, hC_NothingToUndo⟩, nb_NothingToUndo, PySem.W.exm_ref eS hS tS sC_NothingToUndo⟩
  have FI_UnequalSizes := fun_mk (st := s_UnequalSizes_i) lI_UnequalSizes cI_UnequalSizes kI_UnequalSizes
  have bI_UnequalSizes := FI_UnequalSizes.binds (ps := ["self", "value"]) fun _ _ _ _ _ _ us hl => match us, hl with | [_, _], _ => rfl
  have kbi_UnequalSizes : KBinds K (PySem.W.fnOf "__init__" "UnequalSizes.__init__" (defArgs s_UnequalSizes_i) (defBody s_UnequalSizes_i) (defScope s_UnequalSizes_i) .none kVi_UnequalSizes dci_UnequalSizes pmi_UnequalSizes ani_UnequalSizes cdi_UnequalSizes cti_UnequalSizes) ["self", "value"] ["value"] (fun (us ws : List Value) => match us, ws with | [u0], [w0] => [u0, w0] | _, _ => []) (fun (us ws : List V) => match us, ws with | [u0], [w0] => [u0, w0] | _, _ => []) := by
    refine ⟨fun s us ws _ hl => ?_, fun {vs us zs ws} h1 h2 => ?_⟩
    · revert hl; (try dsimp only); split
      · intro _; exact .of_eq rfl
      · intro hl; cases hl
    · rcases h1 with _ | ⟨p1, _ | ⟨p2, h1⟩⟩ <;> rcases h2 with _ | ⟨q1, _ | ⟨q2, h2⟩⟩ <;> ((try dsimp only); repeat (first | exact .nil | refine .cons (by assumption) ?_))
  have E_UnequalSizes : ErrC K mg "UnequalSizes" C_SortError C_UnequalSizes ci_UnequalSizes := ⟨PySem.W.mg_of X G aC_UnequalSizes, ⟨⟨_, _, _, _, _, _, _, _, _, _, _, _, _, _, _, xL_UnequalSizes, rfl⟩, sa_UnequalSizes, eC_UnequalSizes, tC_UnequalSizes, kC_UnequalSizes⟩, iC_UnequalSizes, tI_UnequalSizes, ⟨ga_UnequalSizes, gg_UnequalSizes, eC_UnequalSizes, hC_UnequalSizes⟩, nb_UnequalSizes, PySem.W.exm_ref eS hS tS sC_UnequalSizes⟩
  have FI_Unreadable := fun_mk (st := s_Unreadable_i) lI_Unreadable cI_Unreadable kI_Unreadable
  have bI_Unreadable := FI_Unreadable.binds (ps := ["self", "value"]) fun _ _ _ _ _ _ us hl => match us, hl with | [_, _], _ => rfl
  have kbi_Unreadable : KBinds K (PySem.W.fnOf "__init__" "Unreadable.__init__" (defArgs s_Unreadable_i) (defBody s_Unreadable_i) (defScope s_Unreadable_i) .none kVi_Unreadable dci_Unreadable pmi_Unreadable ani_Unreadable cdi_Unreadable cti_Unreadable) ["self", "value"] ["value"] (fun (us ws : List Value) => match us, ws with | [u0], [w0] => [u0, w0] | _, _ => []) (fun (us ws : List V) => match us, ws with | [u0], [w0] => [u0, w0] | _, _ => []) := by
    refine ⟨fun s us ws _ hl => ?_, fun {vs us zs ws} h1 h2 => ?_⟩
    · revert hl; (try dsimp only); split
      · intro _; exact .of_eq rfl
      · intro hl; cases hl
    · rcases h1 with _ | ⟨p1, _ | ⟨p2, h1⟩⟩ <;> rcases h2 with _ | ⟨q1, _ | ⟨q2, h2⟩⟩ <;> ((try dsimp only); repeat (first | exact .nil | refine .cons (by assumption) ?_))
  have E_Unreadable : ErrC K mg "Unreadable" C_SortError C_Unreadable ci_Unreadable := ⟨PySem.W.mg_of X G aC_Unreadable, ⟨⟨_, _, _, _, _, _, _, _, _, _, _, _, _, _, _, xL_Unreadable, rfl⟩, sa_Unreadable, eC_Unreadable, tC_Unreadable, kC_Unreadable⟩, iC_Unreadable, tI_Unreadable, ⟨ga_Unreadable, gg_Unreadable, eC_Unreadable, hC_Unreadable⟩, nb_Unreadable, PySem.W.exm_ref eS hS tS sC_Unreadable⟩
  let T : Txt K mg := { InvalidCommand_a := C_InvalidCommand, InvalidCommand_g := PySem.W.mg_of X G aC_InvalidCommand, InvalidNumber_a := C_InvalidNumber, InvalidNumber_g := PySem.W.mg_of X G aC_InvalidNumber, InvalidRow_a := C_InvalidRow, InvalidRow_g := PySem.W.mg_of X G aC_InvalidRow, InvalidSize_a := C_InvalidSize, InvalidSize_g := PySem.W.mg_of X G aC_InvalidSize, NothingToUndo_a := C_NothingToUndo, NothingToUndo_g := PySem.W.mg_of X G aC_NothingToUndo, SortError_a := C_SortError, SortError_g := PySem.W.mg_of X G aC_SortError, UnequalSizes_a := C_UnequalSizes, UnequalSizes_g := PySem.W.mg_of X G aC_UnequalSizes, Unreadable_a := C_Unreadable, Unreadable_g := PySem.W.mg_of X G aC_Unreadable, InvalidCommand_i_a := ci_InvalidCommand, InvalidCommand_i_d := _, InvalidCommand_i_F := FI_InvalidCommand, InvalidCommand_i_b := bI_InvalidCommand, InvalidCommand_E := E_InvalidCommand, InvalidCommand_i_kb := kbi_InvalidCommand, InvalidCommand_st := st_InvalidCommand, InvalidCommand_X := ⟨ga_InvalidCommand, gg_InvalidCommand, eC_InvalidCommand, hC_InvalidCommand, aX_InvalidCommand, nX, uX, mX_InvalidCommand⟩, InvalidCommand_is_InvalidCommand := is_InvalidCommand_InvalidCommand, InvalidCommand_is_InvalidNumber := is_InvalidCommand_InvalidNumber, InvalidCommand_is_InvalidRow := is_InvalidCommand_InvalidRow, InvalidCommand_is_InvalidSize := is_InvalidCommand_InvalidSize, InvalidCommand_is_NothingToUndo := is_InvalidCommand_NothingToUndo, InvalidCommand_is_SortError := is_InvalidCommand_SortError, InvalidCommand_is_UnequalSizes := is_InvalidCommand_UnequalSizes, InvalidCommand_is_Unreadable := is_InvalidCommand_Unreadable, InvalidCommand_is_ValueError := is_InvalidCommand_ValueError, InvalidNumber_i_a := ci_InvalidNumber, InvalidNumber_i_d := _, InvalidNumber_i_F := FI_InvalidNumber, InvalidNumber_i_b := bI_InvalidNumber, InvalidNumber_E := E_InvalidNumber, InvalidNumber_i_kb := kbi_InvalidNumber, InvalidNumber_st := st_InvalidNumber, InvalidNumber_X := ⟨ga_InvalidNumber, gg_InvalidNumber, eC_InvalidNumber, hC_InvalidNumber, aX_InvalidNumber, nX, uX, mX_InvalidNumber⟩, InvalidNumber_is_InvalidCommand := is_InvalidNumber_InvalidCommand, InvalidNumber_is_InvalidNumber := is_InvalidNumber_InvalidNumber, InvalidNumber_is_InvalidRow := is_InvalidNumber_InvalidRow, InvalidNumber_is_InvalidSize := is_InvalidNumber_InvalidSize, InvalidNumber_is_NothingToUndo := is_InvalidNumber_NothingToUndo, InvalidNumber_is_SortError := is_InvalidNumber_SortError, InvalidNumber_is_UnequalSizes := is_InvalidNumber_UnequalSizes, InvalidNumber_is_Unreadable := is_InvalidNumber_Unreadable, InvalidNumber_is_ValueError := is_InvalidNumber_ValueError, InvalidRow_i_a := ci_InvalidRow, InvalidRow_i_d := _, InvalidRow_i_F := FI_InvalidRow, InvalidRow_i_b := bI_InvalidRow, InvalidRow_E := E_InvalidRow, InvalidRow_i_kb := kbi_InvalidRow, InvalidRow_st := st_InvalidRow, InvalidRow_X := ⟨ga_InvalidRow, gg_InvalidRow, eC_InvalidRow, hC_InvalidRow, aX_InvalidRow, nX, uX, mX_InvalidRow⟩, InvalidRow_is_InvalidCommand := is_InvalidRow_InvalidCommand, InvalidRow_is_InvalidNumber := is_InvalidRow_InvalidNumber, InvalidRow_is_InvalidRow := is_InvalidRow_InvalidRow, InvalidRow_is_InvalidSize := is_InvalidRow_InvalidSize, InvalidRow_is_NothingToUndo := is_InvalidRow_NothingToUndo, InvalidRow_is_SortError := is_InvalidRow_SortError, InvalidRow_is_UnequalSizes := is_InvalidRow_UnequalSizes, InvalidRow_is_Unreadable := is_InvalidRow_Unreadable, InvalidRow_is_ValueError := is_InvalidRow_ValueError, InvalidSize_i_a := ci_InvalidSize, InvalidSize_i_d := _, InvalidSize_i_F := FI_InvalidSize, InvalidSize_i_b := bI_InvalidSize, InvalidSize_E := E_InvalidSize, InvalidSize_i_kb := kbi_InvalidSize, InvalidSize_st := st_InvalidSize, InvalidSize_X := ⟨ga_InvalidSize, gg_InvalidSize, eC_InvalidSize, hC_InvalidSize, aX_InvalidSize, nX, uX, mX_InvalidSize⟩, InvalidSize_is_InvalidCommand := is_InvalidSize_InvalidCommand, InvalidSize_is_InvalidNumber := is_InvalidSize_InvalidNumber, InvalidSize_is_InvalidRow := is_InvalidSize_InvalidRow, InvalidSize_is_InvalidSize := is_InvalidSize_InvalidSize, InvalidSize_is_NothingToUndo := is_InvalidSize_NothingToUndo, InvalidSize_is_SortError := is_InvalidSize_SortError, InvalidSize_is_UnequalSizes := is_InvalidSize_UnequalSizes, InvalidSize_is_Unreadable := is_InvalidSize_Unreadable, InvalidSize_is_ValueError := is_InvalidSize_ValueError, NothingToUndo_i_a := ci_NothingToUndo, NothingToUndo_i_d := _, NothingToUndo_i_F := FI_NothingToUndo, NothingToUndo_i_b := bI_NothingToUndo, NothingToUndo_E := E_NothingToUndo, NothingToUndo_i_kb := kbi_NothingToUndo, NothingToUndo_st := st_NothingToUndo, NothingToUndo_X := ⟨ga_NothingToUndo, gg_NothingToUndo, eC_NothingToUndo, hC_NothingToUndo, aX_NothingToUndo, nX, uX, mX_NothingToUndo⟩, NothingToUndo_is_InvalidCommand := is_NothingToUndo_InvalidCommand, NothingToUndo_is_InvalidNumber := is_NothingToUndo_InvalidNumber, NothingToUndo_is_InvalidRow := is_NothingToUndo_InvalidRow, NothingToUndo_is_InvalidSize := is_NothingToUndo_InvalidSize, NothingToUndo_is_NothingToUndo := is_NothingToUndo_NothingToUndo, NothingToUndo_is_SortError := is_NothingToUndo_SortError, NothingToUndo_is_UnequalSizes := is_NothingToUndo_UnequalSizes, NothingToUndo_is_Unreadable := is_NothingToUndo_Unreadable, NothingToUndo_is_ValueError := is_NothingToUndo_ValueError, UnequalSizes_i_a := ci_UnequalSizes, UnequalSizes_i_d := _, UnequalSizes_i_F := FI_UnequalSizes, UnequalSizes_i_b := bI_UnequalSizes, UnequalSizes_E := E_UnequalSizes, UnequalSizes_i_kb := kbi_UnequalSizes, UnequalSizes_st := st_UnequalSizes, UnequalSizes_X := ⟨ga_UnequalSizes, gg_UnequalSizes, eC_UnequalSizes, hC_UnequalSizes, aX_UnequalSizes, nX, uX, mX_UnequalSizes⟩, UnequalSizes_is_InvalidCommand := is_UnequalSizes_InvalidCommand, UnequalSizes_is_InvalidNumber := is_UnequalSizes_InvalidNumber, UnequalSizes_is_InvalidRow := is_UnequalSizes_InvalidRow, UnequalSizes_is_InvalidSize := is_UnequalSizes_InvalidSize, UnequalSizes_is_NothingToUndo := is_UnequalSizes_NothingToUndo, UnequalSizes_is_SortError := is_UnequalSizes_SortError, UnequalSizes_is_UnequalSizes := is_UnequalSizes_UnequalSizes, UnequalSizes_is_Unreadable := is_UnequalSizes_Unreadable, UnequalSizes_is_ValueError := is_UnequalSizes_ValueError, Unreadable_i_a := ci_Unreadable, Unreadable_i_d := _, Unreadable_i_F := FI_Unreadable, Unreadable_i_b := bI_Unreadable, Unreadable_E := E_Unreadable, Unreadable_i_kb := kbi_Unreadable, Unreadable_st := st_Unreadable, Unreadable_X := ⟨ga_Unreadable, gg_Unreadable, eC_Unreadable, hC_Unreadable, aX_Unreadable, nX, uX, mX_Unreadable⟩, Unreadable_is_InvalidCommand := is_Unreadable_InvalidCommand, Unreadable_is_InvalidNumber := is_Unreadable_InvalidNumber, Unreadable_is_InvalidRow := is_Unreadable_InvalidRow, Unreadable_is_InvalidSize := is_Unreadable_InvalidSize, Unreadable_is_NothingToUndo := is_Unreadable_NothingToUndo, Unreadable_is_SortError := is_Unreadable_SortError, Unreadable_is_UnequalSizes := is_Unreadable_UnequalSizes, Unreadable_is_Unreadable := is_Unreadable_Unreadable, Unreadable_is_ValueError := is_Unreadable_ValueError, sort_stretches_a := f_sort_stretches, sort_stretches_d := _, sort_stretches_F := F0, sort_stretches_b := b0, sort_stretches_g := PySem.W.mg_of X G a0, inversions_a := f_inversions, inversions_d := _, inversions_F := F1, inversions_b := b1, inversions_g := PySem.W.mg_of X G a1, law_rng_a := f_law_rng, law_rng_d := _, law_rng_F := F2, law_rng_b := b2, law_rng_g := PySem.W.mg_of X G a2, law_draw_a := f_law_draw, law_draw_d := _, law_draw_F := F3, law_draw_b := b3, law_draw_g := PySem.W.mg_of X G a3, law_kind_a := f_law_kind, law_kind_d := _, law_kind_F := F4, law_kind_b := b4, law_kind_g := PySem.W.mg_of X G a4, law_commands_a := f_law_commands, law_commands_d := _, law_commands_F := F5, law_commands_b := b5, law_commands_g := PySem.W.mg_of X G a5, law_arranged_a := f_law_arranged, law_arranged_d := _, law_arranged_F := F6, law_arranged_b := b6, law_arranged_g := PySem.W.mg_of X G a6, law_bad_commands_a := f_law_bad_commands, law_bad_commands_d := _, law_bad_commands_F := F7, law_bad_commands_b := b7, law_bad_commands_g := PySem.W.mg_of X G a7, law_bad_row_a := f_law_bad_row, law_bad_row_d := _, law_bad_row_F := F8, law_bad_row_b := b8, law_bad_row_g := PySem.W.mg_of X G a8, check_size_a := f_check_size, check_size_d := _, check_size_F := F9, check_size_b := b9, check_size_g := PySem.W.mg_of X G a9, check_script_a := f_check_script, check_script_d := _, check_script_F := F10, check_script_b := b10, check_script_g := PySem.W.mg_of X G a10, check_arrangement_a := f_check_arrangement, check_arrangement_d := _, check_arrangement_F := F11, check_arrangement_b := b11, check_arrangement_g := PySem.W.mg_of X G a11, check_sized_script_a := f_check_sized_script, check_sized_script_d := _, check_sized_script_F := F12, check_sized_script_b := b12, check_sized_script_g := PySem.W.mg_of X G a12, is_at_most_a := f_is_at_most, is_at_most_d := _, is_at_most_F := F13, is_at_most_b := b13, is_at_most_g := PySem.W.mg_of X G a13, law_built_right_a := f_law_built_right, law_built_right_d := _, law_built_right_F := F14, law_built_right_b := b14, law_built_right_g := PySem.W.mg_of X G a14, run_a := f_run, run_d := _, run_F := F15, run_b := b15, run_g := PySem.W.mg_of X G a15, stages_a := f_stages, stages_d := _, stages_F := F16, stages_b := b16, stages_g := PySem.W.mg_of X G a16, law_told_a := f_law_told, law_told_d := _, law_told_F := F17, law_told_b := b17, law_told_g := PySem.W.mg_of X G a17, law_first_a := f_law_first, law_first_d := _, law_first_F := F18, law_first_b := b18, law_first_g := PySem.W.mg_of X G a18, law_a := fa, law_d := _, law_F := F19, law_b := b19, law_g := PySem.W.mg_of X G a19, k_is_at_most_second_first := kb_is_at_most_second_first, k_run_commands_row := kb_run_commands_row, m_ValueError := PySem.W.mg_none_of X G z_ValueError, m_abs := PySem.W.mg_none_of X G z_abs, m_enumerate := PySem.W.mg_none_of X G z_enumerate, m_isinstance := PySem.W.mg_none_of X G z_isinstance, m_len := PySem.W.mg_none_of X G z_len, m_list := PySem.W.mg_none_of X G z_list, m_min := PySem.W.mg_none_of X G z_min, m_range := PySem.W.mg_none_of X G z_range, m_repr := PySem.W.mg_none_of X G z_repr, m_set := PySem.W.mg_none_of X G z_set, m_sorted := PySem.W.mg_none_of X G z_sorted, m_zip := PySem.W.mg_none_of X G z_zip }
  exact ⟨PySem.W.fnOf "law" "law" (defArgs s_law) (defBody s_law) (defScope s_law) .none kV19 dc19 pm19 an19 cd19 ct19, fun s v => .of_eq rfl, fun base _ _ => ok_law T⟩
end L05
open PySem PySem.W PyProof.Rows
set_option maxHeartbeats 0 in
theorem PySem.Challenge.cw_sortstretches_k05_errors_of_rows_holds : PySem.Challenge.rw_sortstretches_k05_errors_of_rows.Holds := by
  w_on; o_law; k_head; (case hw => w_witness2)
  k_fill
  refine Xk.walkG (l := PySem.Challenge.rw_sortstretches_k05_errors_of_rows) (m := 63) (n := 10) (x := "script") (CX := L2.CX0) (sp := L05.sp_law) rfl (by decide) rfl ⟨rfl, by decide, by decide⟩ (fun w h Y => PySem.W.kIn_of Y) ?F (fun K H a ns hl hO hS => ⟨a, ns, rfl, hS, hl, fun _ => rfl⟩) (fun _ _ _ _ h => h)
  case F =>
    intro w mg fa h KX G hmg
    refine' L05.all_mk KX G hmg ?a0 ?l0 ?c0 ?k0 ?a1 ?l1 ?c1 ?k1 ?a2 ?l2 ?c2 ?k2 ?a3 ?l3 ?c3 ?k3 ?a4 ?l4 ?c4 ?k4 ?a5 ?l5 ?c5 ?k5 ?a6 ?l6 ?c6 ?k6 ?a7 ?l7 ?c7 ?k7 ?a8 ?l8 ?c8 ?k8 ?a9 ?l9 ?c9 ?k9 ?a10 ?l10 ?c10 ?k10 ?a11 ?l11 ?c11 ?k11 ?a12 ?l12 ?c12 ?k12 ?a13 ?l13 ?c13 ?k13 ?a14 ?l14 ?c14 ?k14 ?a15 ?l15 ?c15 ?k15 ?a16 ?l16 ?c16 ?k16 ?a17 ?l17 ?c17 ?k17 ?a18 ?l18 ?c18 ?k18 ?a19 ?l19 ?c19 ?k19 ?aC_InvalidCommand ?aC_InvalidNumber ?aC_InvalidRow ?aC_InvalidSize ?aC_NothingToUndo ?aC_SortError ?aC_UnequalSizes ?aC_Unreadable ?eS ?hS ?tS ?nX ?uX ?aX_InvalidCommand ?mX_InvalidCommand ?is_InvalidCommand_InvalidCommand ?is_InvalidCommand_InvalidNumber ?is_InvalidCommand_InvalidRow ?is_InvalidCommand_InvalidSize ?is_InvalidCommand_NothingToUndo ?is_InvalidCommand_SortError ?is_InvalidCommand_UnequalSizes ?is_InvalidCommand_Unreadable ?is_InvalidCommand_ValueError ?aX_InvalidNumber ?mX_InvalidNumber ?is_InvalidNumber_InvalidCommand ?is_InvalidNumber_InvalidNumber ?is_InvalidNumber_InvalidRow ?is_InvalidNumber_InvalidSize ?is_InvalidNumber_NothingToUndo ?is_InvalidNumber_SortError ?is_InvalidNumber_UnequalSizes ?is_InvalidNumber_Unreadable ?is_InvalidNumber_ValueError ?aX_InvalidRow ?mX_InvalidRow ?is_InvalidRow_InvalidCommand ?is_InvalidRow_InvalidNumber ?is_InvalidRow_InvalidRow ?is_InvalidRow_InvalidSize ?is_InvalidRow_NothingToUndo ?is_InvalidRow_SortError ?is_InvalidRow_UnequalSizes ?is_InvalidRow_Unreadable ?is_InvalidRow_ValueError ?aX_InvalidSize ?mX_InvalidSize ?is_InvalidSize_InvalidCommand ?is_InvalidSize_InvalidNumber ?is_InvalidSize_InvalidRow ?is_InvalidSize_InvalidSize ?is_InvalidSize_NothingToUndo ?is_InvalidSize_SortError ?is_InvalidSize_UnequalSizes ?is_InvalidSize_Unreadable ?is_InvalidSize_ValueError ?aX_NothingToUndo ?mX_NothingToUndo ?is_NothingToUndo_InvalidCommand ?is_NothingToUndo_InvalidNumber ?is_NothingToUndo_InvalidRow ?is_NothingToUndo_InvalidSize ?is_NothingToUndo_NothingToUndo ?is_NothingToUndo_SortError ?is_NothingToUndo_UnequalSizes ?is_NothingToUndo_Unreadable ?is_NothingToUndo_ValueError ?aX_UnequalSizes ?mX_UnequalSizes ?is_UnequalSizes_InvalidCommand ?is_UnequalSizes_InvalidNumber ?is_UnequalSizes_InvalidRow ?is_UnequalSizes_InvalidSize ?is_UnequalSizes_NothingToUndo ?is_UnequalSizes_SortError ?is_UnequalSizes_UnequalSizes ?is_UnequalSizes_Unreadable ?is_UnequalSizes_ValueError ?aX_Unreadable ?mX_Unreadable ?is_Unreadable_InvalidCommand ?is_Unreadable_InvalidNumber ?is_Unreadable_InvalidRow ?is_Unreadable_InvalidSize ?is_Unreadable_NothingToUndo ?is_Unreadable_SortError ?is_Unreadable_UnequalSizes ?is_Unreadable_Unreadable ?is_Unreadable_ValueError ?xL_InvalidCommand ?sa_InvalidCommand ?ga_InvalidCommand ?gg_InvalidCommand ?nb_InvalidCommand ?iC_InvalidCommand ?tI_InvalidCommand ?lI_InvalidCommand ?cI_InvalidCommand ?kI_InvalidCommand ?kC_InvalidCommand ?eC_InvalidCommand ?tC_InvalidCommand ?hC_InvalidCommand ?sC_InvalidCommand ?st_InvalidCommand ?xL_InvalidNumber ?sa_InvalidNumber ?ga_InvalidNumber ?gg_InvalidNumber ?nb_InvalidNumber ?iC_InvalidNumber ?tI_InvalidNumber ?lI_InvalidNumber ?cI_InvalidNumber ?kI_InvalidNumber ?kC_InvalidNumber ?eC_InvalidNumber ?tC_InvalidNumber ?hC_InvalidNumber ?sC_InvalidNumber ?st_InvalidNumber ?xL_InvalidRow ?sa_InvalidRow ?ga_InvalidRow ?gg_InvalidRow ?nb_InvalidRow ?iC_InvalidRow ?tI_InvalidRow ?lI_InvalidRow ?cI_InvalidRow ?kI_InvalidRow ?kC_InvalidRow ?eC_InvalidRow ?tC_InvalidRow ?hC_InvalidRow ?sC_InvalidRow ?st_InvalidRow ?xL_InvalidSize ?sa_InvalidSize ?ga_InvalidSize ?gg_InvalidSize ?nb_InvalidSize ?iC_InvalidSize ?tI_InvalidSize ?lI_InvalidSize ?cI_InvalidSize ?kI_InvalidSize ?kC_InvalidSize ?eC_InvalidSize ?tC_InvalidSize ?hC_InvalidSize ?sC_InvalidSize ?st_InvalidSize ?xL_NothingToUndo ?sa_NothingToUndo ?ga_NothingToUndo ?gg_NothingToUndo ?nb_NothingToUndo ?iC_NothingToUndo ?tI_NothingToUndo ?lI_NothingToUndo ?cI_NothingToUndo ?kI_NothingToUndo ?kC_NothingToUndo ?eC_NothingToUndo ?tC_NothingToUndo ?hC_NothingToUndo ?sC_NothingToUndo ?st_NothingToUndo ?xL_UnequalSizes ?sa_UnequalSizes ?ga_UnequalSizes ?gg_UnequalSizes ?nb_UnequalSizes ?iC_UnequalSizes ?tI_UnequalSizes ?lI_UnequalSizes ?cI_UnequalSizes ?kI_UnequalSizes ?kC_UnequalSizes ?eC_UnequalSizes ?tC_UnequalSizes ?hC_UnequalSizes ?sC_UnequalSizes ?st_UnequalSizes ?xL_Unreadable ?sa_Unreadable ?ga_Unreadable ?gg_Unreadable ?nb_Unreadable ?iC_Unreadable ?tI_Unreadable ?lI_Unreadable ?cI_Unreadable ?kI_Unreadable ?kC_Unreadable ?eC_Unreadable ?tC_Unreadable ?hC_Unreadable ?sC_Unreadable ?st_Unreadable ?z_ValueError ?z_abs ?z_enumerate ?z_isinstance ?z_len ?z_list ?z_min ?z_range ?z_repr ?z_set ?z_sorted ?z_zip
    (case aC_InvalidCommand => k_is); (case aC_InvalidNumber => k_is); (case aC_InvalidRow => k_is); (case aC_InvalidSize => k_is); (case aC_NothingToUndo => k_is); (case aC_SortError => k_is); (case aC_UnequalSizes => k_is); (case aC_Unreadable => k_is); (case a0 => k_is); (case l0 => k_is); (case c0 => k_is); (case k0 => k_is); (case a1 => k_is); (case l1 => k_is); (case c1 => k_is); (case k1 => k_is); (case a2 => k_is); (case l2 => k_is); (case c2 => k_is); (case k2 => k_is); (case a3 => k_is); (case l3 => k_is); (case c3 => k_is); (case k3 => k_is); (case a4 => k_is); (case l4 => k_is); (case c4 => k_is); (case k4 => k_is); (case a5 => k_is); (case l5 => k_is); (case c5 => k_is); (case k5 => k_is); (case a6 => k_is); (case l6 => k_is); (case c6 => k_is); (case k6 => k_is); (case a7 => k_is); (case l7 => k_is); (case c7 => k_is); (case k7 => k_is); (case a8 => k_is); (case l8 => k_is); (case c8 => k_is); (case k8 => k_is); (case a9 => k_is); (case l9 => k_is); (case c9 => k_is); (case k9 => k_is); (case a10 => k_is); (case l10 => k_is); (case c10 => k_is); (case k10 => k_is); (case a11 => k_is); (case l11 => k_is); (case c11 => k_is); (case k11 => k_is); (case a12 => k_is); (case l12 => k_is); (case c12 => k_is); (case k12 => k_is); (case a13 => k_is); (case l13 => k_is); (case c13 => k_is); (case k13 => k_is); (case a14 => k_is); (case l14 => k_is); (case c14 => k_is); (case k14 => k_is); (case a15 => k_is); (case l15 => k_is); (case c15 => k_is); (case k15 => k_is); (case a16 => k_is); (case l16 => k_is); (case c16 => k_is); (case k16 => k_is); (case a17 => k_is); (case l17 => k_is); (case c17 => k_is); (case k17 => k_is); (case a18 => k_is); (case l18 => k_is); (case c18 => k_is); (case k18 => k_is); (case a19 => k_is); (case l19 => k_is); (case c19 => k_is); (case k19 => k_is); (case eS => k_is); (case hS => k_is); (case tS => k_is); (case nX => k_is); (case uX => k_is); (case aX_InvalidCommand => k_is); (case mX_InvalidCommand => k_is); (case is_InvalidCommand_InvalidCommand => kit_is); (case is_InvalidCommand_InvalidNumber => kit_is); (case is_InvalidCommand_InvalidRow => kit_is); (case is_InvalidCommand_InvalidSize => kit_is); (case is_InvalidCommand_NothingToUndo => kit_is); (case is_InvalidCommand_SortError => kit_is); (case is_InvalidCommand_UnequalSizes => kit_is); (case is_InvalidCommand_Unreadable => kit_is); (case is_InvalidCommand_ValueError => kit_is); (case aX_InvalidNumber => k_is); (case mX_InvalidNumber => k_is); (case is_InvalidNumber_InvalidCommand => kit_is); (case is_InvalidNumber_InvalidNumber => kit_is); (case is_InvalidNumber_InvalidRow => kit_is); (case is_InvalidNumber_InvalidSize => kit_is); (case is_InvalidNumber_NothingToUndo => kit_is); (case is_InvalidNumber_SortError => kit_is); (case is_InvalidNumber_UnequalSizes => kit_is); (case is_InvalidNumber_Unreadable => kit_is); (case is_InvalidNumber_ValueError => kit_is); (case aX_InvalidRow => k_is); (case mX_InvalidRow => k_is); (case is_InvalidRow_InvalidCommand => kit_is); (case is_InvalidRow_InvalidNumber => kit_is); (case is_InvalidRow_InvalidRow => kit_is); (case is_InvalidRow_InvalidSize => kit_is); (case is_InvalidRow_NothingToUndo => kit_is); (case is_InvalidRow_SortError => kit_is); (case is_InvalidRow_UnequalSizes => kit_is); (case is_InvalidRow_Unreadable => kit_is); (case is_InvalidRow_ValueError => kit_is); (case aX_InvalidSize => k_is); (case mX_InvalidSize => k_is); (case is_InvalidSize_InvalidCommand => kit_is); (case is_InvalidSize_InvalidNumber => kit_is); (case is_InvalidSize_InvalidRow => kit_is); (case is_InvalidSize_InvalidSize => kit_is); (case is_InvalidSize_NothingToUndo => kit_is); (case is_InvalidSize_SortError => kit_is); (case is_InvalidSize_UnequalSizes => kit_is); (case is_InvalidSize_Unreadable => kit_is); (case is_InvalidSize_ValueError => kit_is); (case aX_NothingToUndo => k_is); (case mX_NothingToUndo => k_is); (case is_NothingToUndo_InvalidCommand => kit_is); (case is_NothingToUndo_InvalidNumber => kit_is); (case is_NothingToUndo_InvalidRow => kit_is); (case is_NothingToUndo_InvalidSize => kit_is); (case is_NothingToUndo_NothingToUndo => kit_is); (case is_NothingToUndo_SortError => kit_is); (case is_NothingToUndo_UnequalSizes => kit_is); (case is_NothingToUndo_Unreadable => kit_is); (case is_NothingToUndo_ValueError => kit_is); (case aX_UnequalSizes => k_is); (case mX_UnequalSizes => k_is); (case is_UnequalSizes_InvalidCommand => kit_is); (case is_UnequalSizes_InvalidNumber => kit_is); (case is_UnequalSizes_InvalidRow => kit_is); (case is_UnequalSizes_InvalidSize => kit_is); (case is_UnequalSizes_NothingToUndo => kit_is); (case is_UnequalSizes_SortError => kit_is); (case is_UnequalSizes_UnequalSizes => kit_is); (case is_UnequalSizes_Unreadable => kit_is); (case is_UnequalSizes_ValueError => kit_is); (case aX_Unreadable => k_is); (case mX_Unreadable => k_is); (case is_Unreadable_InvalidCommand => kit_is); (case is_Unreadable_InvalidNumber => kit_is); (case is_Unreadable_InvalidRow => kit_is); (case is_Unreadable_InvalidSize => kit_is); (case is_Unreadable_NothingToUndo => kit_is); (case is_Unreadable_SortError => kit_is); (case is_Unreadable_UnequalSizes => kit_is); (case is_Unreadable_Unreadable => kit_is); (case is_Unreadable_ValueError => kit_is); (case xL_InvalidCommand => k_is); (case sa_InvalidCommand => k_is); (case ga_InvalidCommand => k_is); (case gg_InvalidCommand => k_is); (case nb_InvalidCommand => k_is); (case iC_InvalidCommand => k_is); (case tI_InvalidCommand => k_is); (case lI_InvalidCommand => k_is); (case cI_InvalidCommand => k_is); (case kI_InvalidCommand => k_is); (case kC_InvalidCommand => k_is); (case eC_InvalidCommand => k_is); (case tC_InvalidCommand => k_is); (case hC_InvalidCommand => k_is); (case sC_InvalidCommand => k_is); (case st_InvalidCommand => k_is); (case xL_InvalidNumber => k_is); (case sa_InvalidNumber => k_is); (case ga_InvalidNumber => k_is); (case gg_InvalidNumber => k_is); (case nb_InvalidNumber => k_is); (case iC_InvalidNumber => k_is); (case tI_InvalidNumber => k_is); (case lI_InvalidNumber => k_is); (case cI_InvalidNumber => k_is); (case kI_InvalidNumber => k_is); (case kC_InvalidNumber => k_is); (case eC_InvalidNumber => k_is); (case tC_InvalidNumber => k_is); (case hC_InvalidNumber => k_is); (case sC_InvalidNumber => k_is); (case st_InvalidNumber => k_is); (case xL_InvalidRow => k_is); (case sa_InvalidRow => k_is); (case ga_InvalidRow => k_is); (case gg_InvalidRow => k_is); (case nb_InvalidRow => k_is); (case iC_InvalidRow => k_is); (case tI_InvalidRow => k_is); (case lI_InvalidRow => k_is); (case cI_InvalidRow => k_is); (case kI_InvalidRow => k_is); (case kC_InvalidRow => k_is); (case eC_InvalidRow => k_is); (case tC_InvalidRow => k_is); (case hC_InvalidRow => k_is); (case sC_InvalidRow => k_is); (case st_InvalidRow => k_is); (case xL_InvalidSize => k_is); (case sa_InvalidSize => k_is); (case ga_InvalidSize => k_is); (case gg_InvalidSize => k_is); (case nb_InvalidSize => k_is); (case iC_InvalidSize => k_is); (case tI_InvalidSize => k_is); (case lI_InvalidSize => k_is); (case cI_InvalidSize => k_is); (case kI_InvalidSize => k_is); (case kC_InvalidSize => k_is); (case eC_InvalidSize => k_is); (case tC_InvalidSize => k_is); (case hC_InvalidSize => k_is); (case sC_InvalidSize => k_is); (case st_InvalidSize => k_is); (case xL_NothingToUndo => k_is); (case sa_NothingToUndo => k_is); (case ga_NothingToUndo => k_is); (case gg_NothingToUndo => k_is); (case nb_NothingToUndo => k_is); (case iC_NothingToUndo => k_is); (case tI_NothingToUndo => k_is); (case lI_NothingToUndo => k_is); (case cI_NothingToUndo => k_is); (case kI_NothingToUndo => k_is); (case kC_NothingToUndo => k_is); (case eC_NothingToUndo => k_is); (case tC_NothingToUndo => k_is); (case hC_NothingToUndo => k_is); (case sC_NothingToUndo => k_is); (case st_NothingToUndo => k_is); (case xL_UnequalSizes => k_is); (case sa_UnequalSizes => k_is); (case ga_UnequalSizes => k_is); (case gg_UnequalSizes => k_is); (case nb_UnequalSizes => k_is); (case iC_UnequalSizes => k_is); (case tI_UnequalSizes => k_is); (case lI_UnequalSizes => k_is); (case cI_UnequalSizes => k_is); (case kI_UnequalSizes => k_is); (case kC_UnequalSizes => k_is); (case eC_UnequalSizes => k_is); (case tC_UnequalSizes => k_is); (case hC_UnequalSizes => k_is); (case sC_UnequalSizes => k_is); (case st_UnequalSizes => k_is); (case xL_Unreadable => k_is); (case sa_Unreadable => k_is); (case ga_Unreadable => k_is); (case gg_Unreadable => k_is); (case nb_Unreadable => k_is); (case iC_Unreadable => k_is); (case tI_Unreadable => k_is); (case lI_Unreadable => k_is); (case cI_Unreadable => k_is); (case kI_Unreadable => k_is); (case kC_Unreadable => k_is); (case eC_Unreadable => k_is); (case tC_Unreadable => k_is); (case hC_Unreadable => k_is); (case sC_Unreadable => k_is); (case st_Unreadable => k_is); (case z_ValueError => k_is); (case z_abs => k_is); (case z_enumerate => k_is); (case z_isinstance => k_is); (case z_len => k_is); (case z_list => k_is); (case z_min => k_is); (case z_range => k_is); (case z_repr => k_is); (case z_set => k_is); (case z_sorted => k_is); (case z_zip => k_is)

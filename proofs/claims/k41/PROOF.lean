import PyProof.Rows.All
import Wide.All
import OpenK.AllK
import Wide.FinOn
import HandS.Base
import HandS.Call
import HandS.List
import HandS.Ends
import HandS.Wide
import HandS.Iter
import HandS.Conv
import HandS.ForMost
import HandS.ForExc
import HandS.SortInts
import HandS.SortKw
import HandS.SetFor
import HandS.Style
import HandS.Codes
import HandS.Strs
import HandS.Walk
import HandS.IsInst
import HandS.NoneIn
import HandS.Deep
import HandS.More
import HandS.GenBody
import HandS.GenYield
import HandS.GenCall
import HandS.GenList
import KE.KDictZip
import KE.GoesEnumKw
import HandS.ExcValue
import HandS.Star
import HandS.Gcd
import KE.KRevSl
import HandS.RaiseMore
import HandS.Exc
import HandS.ExcOwn
import HandS.ExcInit
import HandS.ExcField
import HandS.ExcIs
import HandS.WordsExc
import HandS.ExcCtx
import HandS.HotCalls
import HandS.ExcInitHot
import KE.KExcIs
import HandS.Property
import HandS.Dict
import KE.KDictDisplayH
import KE.KDictWalk
import KE.GoesZip
import KE.GoesMore
import KE.GoesEnum
import PySem.Challenge.RW_sortstretches_k41_counting_errors
set_option maxHeartbeats 20000000
set_option Elab.async false
set_option linter.all false
set_option maxRecDepth 100000
namespace Xk
open PySem PySem.Spec PyProof.Rows L2

/-- a def's promise where no list is being written out around the call -/
structure FnG (P : Program) (w : World) (K : PySem.W.Frag) (mg : Str → Option Value) (B : Heap) (CX : CXT) (n : Nat) (g : Addr) (fd : FuncData) (ps : List Str) (sp : Sp) : Prop where
  cnt : ∀ vs H Q E, sp vs H Q E → vs.length = ps.length
  go : ∀ (A : Around) (ou : List Env) (t : Shared) (H : Hp) (ar : Args) (us : List Value) (vs : List V) (Q : VK) (E : XK),
    A.guards = some [] → Room n A → Env0 P w K mg B A ou t H → BindsTo t fd ar (ps.zip us) → Vals vs us → sp vs H Q E →
      codeAny (model P w) A (.call (.ref g) ar) (CR CX ou P w H t Q E) t

theorem FnG.of {P : Program} {w : World} {K : PySem.W.Frag} {mg : Str → Option Value} {B : Heap} {CX : CXT} {n : Nat} {g : Addr} {fd : FuncData} {ps : List Str} {sp : Sp}
    (F : FnOk P w K mg B CX n g fd ps sp) : FnG P w K mg B CX n g fd ps sp :=
  ⟨F.len, fun A ou t H ar us vs Q E _ room env bi rv hs => F.run A ou t H ar us vs Q E room env bi rv hs⟩

section
variable {X : Cx} {CX : CXT} {n : Nat} {g : Addr} {fd : FuncData} {ps ks : List Str} {sp : Sp} {dvs : List V} {ds : List Value} {E : XK} {x : Str} {p pos : Pos} {e : Expr} {es : List Expr} {kws : List Keyword} {t tk : TA}

theorem endG {pins : List (Addr × Obj)} {σ : L2.St} {H : Hp} {s s' : Shared} {Q : VK} {r : Result} (pas : Passes CX X E) (I : Inv X pins σ H s)
    (z : CR CX X.stack X.prog X.w H s Q E r s') :
    (match r with | .ok (.ret u) => EP X pins σ Q u s' | .ok _ => False | .error er => X.xe er s') := by
  match r, z with
  | .error er, z => exact pas pins σ H s er s' I z
  | .ok (.ret u), z => exact I.after z
  | .ok .next, z => exact z.elim
  | .ok .brk, z => exact z.elim
  | .ok .cont, z => exact z.elim

theorem goG {pins : List (Addr × Obj)} {σ : L2.St} {H : Hp} {s : Shared} {Q : VK} {us : List Value} {vs : List V} (F : FnG X.prog X.w X.K X.mg X.base CX n g fd ps sp)
    (hG : X.A.guards = some []) (room : Room n X.A) (bi : Binds X.K fd ps ds) (dv : Vals dvs ds) (pas : Passes CX X E) (I : Inv X pins σ H s) (rv : Vals vs us) (z : sp (vs ++ dvs) H Q E) :
    wpAny (model X.prog X.w) X.A (PySem.call (.ref g) us) (EP X pins σ Q) X.xe s := by
  have rv2 := rv.append dv
  have hlen : (us ++ ds).length = ps.length := rv2.length ▸ F.cnt _ _ _ _ z
  exact wpAny_call (codeAny_mono (F.go X.A X.stack s H ⟨us, []⟩ _ _ Q E hG room I.env0 (bi s us I.kIn hlen) rv2 z) fun r s' y => by
    have := endG pas I y
    revert this
    cases r with
    | error _ => exact id
    | ok fl => cases fl <;> exact id)

theorem pe_callG (F : FnG X.prog X.w X.K X.mg X.base CX n g fd ps sp) (hG : X.A.guards = some []) (room : Room n X.A) (gx : Gl X x) (at' : X.mg x = some (.ref g)) (kp : PySem.W.keepIn X.K (.ref g) = true)
    (bi : Binds X.K fd ps ds) (dv : Vals dvs ds) (pas : Passes CX X E) (ha : PA X (e :: es) t) (hdb : (x == ("__debug__" : Str)) = false := by decide)
    (he : starEach (e :: es) X.env = (false, eval e X.env) :: starEach es X.env := by rfl) (hpl : (backTo pos (starEach es X.env)).any (·.1) = false := by rfl) : PE X (.Call (.Name x p) (e :: es) [] pos) (tCall sp dvs E t) :=
  ⟨fun pins s σ H Q I z => wpAny_Call_Name_kw (ld_glob I gx at'
    (PySem.W.callWith_K (h₀ := X.base) I.ok.mod.kin kp (thn (ha.run pos pins s σ H _ I z) fun us s1 ⟨vs, H1, I1, r, q⟩ => ⟨I1.kIn, goG F hG room bi dv pas I1 r q⟩) he hpl) hdb)⟩

variable {ff : List Value → List Value → List Value} {fV : List V → List V → List V}
theorem goGK {pins : List (Addr × Obj)} {σ : L2.St} {H : Hp} {s : Shared} {Q : VK} {us ws : List Value} {vs zs : List V} (F : FnG X.prog X.w X.K X.mg X.base CX n g fd ps sp)
    (hG : X.A.guards = some []) (room : Room n X.A) (bi : KBinds X.K fd ps ks ff fV) (pas : Passes CX X E) (I : Inv X pins σ H s) (rv : Vals vs us) (rw' : Vals zs ws) (z : sp (fV vs zs) H Q E) :
    wpAny (model X.prog X.w) X.A (PySem.call (.ref g) us (ks.zip ws)) (EP X pins σ Q) X.xe s := by
  have rv2 := bi.rel rv rw'
  have hlen : (ff us ws).length = ps.length := rv2.length ▸ F.cnt _ _ _ _ z
  exact wpAny_call (codeAny_mono (F.go X.A X.stack s H ⟨us, ks.zip ws⟩ _ _ Q E hG room I.env0 (bi.to s us ws I.kIn hlen) rv2 z) fun r s' y => by
    have := endG pas I y
    revert this
    cases r with
    | error _ => exact id
    | ok fl => cases fl <;> exact id)

/-- f(e, .., k = v, ..) -/
theorem pe_callKG (F : FnG X.prog X.w X.K X.mg X.base CX n g fd ps sp) (hG : X.A.guards = some []) (room : Room n X.A) (gx : Gl X x) (at' : X.mg x = some (.ref g)) (kp : PySem.W.keepIn X.K (.ref g) = true)
    (bi : KBinds X.K fd ps ks ff fV) (pas : Passes CX X E) (ha : PA X (e :: es) t) (hkw : PK X kws tk) (hdb : (x == ("__debug__" : Str)) = false := by decide)
    (all' : (backToKw pos (keywordEach kws X.env)).all (·.1.isSome) = true := by rfl) (nms : (backToKw pos (keywordEach kws X.env)).filterMap (·.1) = ks := by rfl)
    (he : starEach (e :: es) X.env = (false, eval e X.env) :: starEach es X.env := by rfl)
    (hpl : ((backTo pos (starEach (e :: es) X.env)).any (·.1) || (backToKw pos (keywordEach kws X.env)).any (·.1.isNone)) = false := by rfl) :
    PE X (.Call (.Name x p) (e :: es) kws pos) (tCallK sp fV E t tk) := by
  subst nms
  exact ⟨fun pins s σ H Q I z => wpAny_Call_Name_kw (ld_glob I gx at'
    (PySem.W.callWith_KW (h₀ := X.base) I.ok.mod.kin kp all' (thn (ha.run pos pins s σ H _ I z) fun us s1 ⟨vs, H1, I1, r, q⟩ =>
      thn (hkw.run pos pins s1 σ H1 _ I1 q) fun ws s2 ⟨zs, H2, I2, rz, q2⟩ => ⟨I2.kIn, goGK F hG room bi pas I2 r rz q2⟩) hpl he) hdb)⟩
/-- f(k = v, ..) -/
theorem pe_callKG0 (F : FnG X.prog X.w X.K X.mg X.base CX n g fd ps sp) (hG : X.A.guards = some []) (room : Room n X.A) (gx : Gl X x) (at' : X.mg x = some (.ref g)) (kp : PySem.W.keepIn X.K (.ref g) = true)
    (bi : KBinds X.K fd ps ks ff fV) (pas : Passes CX X E) (hkw : PK X kws tk) (hdb : (x == ("__debug__" : Str)) = false := by decide)
    (all' : (backToKw pos (keywordEach kws X.env)).all (·.1.isSome) = true := by rfl) (nms : (backToKw pos (keywordEach kws X.env)).filterMap (·.1) = ks := by rfl)
    (hpl : ((backTo pos (starEach [] X.env)).any (·.1) || (backToKw pos (keywordEach kws X.env)).any (·.1.isNone)) = false := by rfl) :
    PE X (.Call (.Name x p) [] kws pos) (tCallK sp fV E tNil tk) := by
  subst nms
  exact ⟨fun pins s σ H Q I z => wpAny_Call_Name_kw (ld_glob I gx at'
    (PySem.W.callWith_KW0 (h₀ := X.base) I.ok.mod.kin kp all' (thn (hkw.run pos pins s σ H _ I z) fun ws s2 ⟨zs, H2, I2, rz, q2⟩ => ⟨I2.kIn, goGK F hG room bi pas I2 .nil rz q2⟩) hpl) hdb)⟩
end

/-- a def of the text by its body, the guards known -/
theorem fnG_of {P : Program} {w : World} {K : PySem.W.Frag} {mg : Str → Option Value} {B : Heap} {CX : CXT} {n : Nat} {g : Addr} {nm qual : Str} {pars : Arguments} {bd : List Stmt} {sc : Scope} {dV kV doc pm cdv ct oc : Value} {an od : Option Addr}
    {osl : Array (Option Value)} {N ps : List Str} {sp : Sp} (lk : K.lookup g = some ⟨oc, od, .func (PySem.W.fnOf nm qual pars bd sc dV kV doc pm an cdv ct), osl⟩) (hcd : PySem.W.codeIn K cdv qual = true) (S : FnScope N ps sc)
    (cnt : ∀ vs H Q E, sp vs H Q E → vs.length = ps.length)
    (body : ∀ (A : Around) (ou : List Env) (t : Shared) (H : Hp) (vs : List V) (Q : VK) (E : XK), A.guards = some [] → Room n (A.deeper (envOfC qual sc t.heap.objs.size g cdv)) → sp vs H Q E →
      ∃ r, PSs (cxOf CX P w K mg B N qual sc g cdv A ou t H E) bd r ∧ r { nx := fun _ H' => Q .non H', rt := Q } (L2.start N vs) H) :
    FnG P w K mg B CX (n + 1) g (PySem.W.fnOf nm qual pars bd sc dV kV doc pm an cdv ct) ps sp where
  cnt := cnt
  go A ou t H ar us vs Q E hG room env bi rv z := by
    have kin := env.mod.kin.keeps fun b o e => (env.bs b o e).1
    have lim := env.mod.nolimit.keeps fun b o e => (env.bs b o e).1
    have kinds : ∀ y ∈ ps.zip us, sc.names.lookup y.1 = some .local ∨ (sc.names.lookup y.1 = some .cell ∧ ((cellsFrom (t.heap.objs.size + 1) sc.names []).lookup y.1).isSome = true) := fun y hy =>
      (S.par y.1 (List.of_mem_zip (a := y.1) (b := y.2) hy).1).imp id fun q => ⟨q, PySem.W.cellsFrom_some _ _ _ (.inl q)⟩
    refine codeAny_call_function room.depth (kin _ _ lk) rfl S.co S.gen rfl (PySem.W.codeRec_of kin hcd) (bi _ _ _ _ (wpAny_newFunctionEnv_cells S.kind kinds fun env' he t1 x => ?_))
    subst he
    obtain ⟨r, hr, hq⟩ := body A ou t H vs Q E hG (room.deeper _) z
    refine ⟨lim.keeps x.toInCall.keep, codeAny_func (wpAny_mono (hr.run [] t1 (L2.start N vs) H _ (inv_start S room.hd env (cnt _ _ _ _ z) rv x) hq) (fun fl t' y => ?_) fun e t' y => y)⟩
    match fl, y with
    | .ret u, ⟨v, σ', H', J, ru, q⟩ => exact ⟨v, H', J.os, J.bare, J.base, J.hok, ru, q⟩
    | .next, ⟨σ', H', J, q⟩ => exact ⟨V.non, H', J.os, J.bare, J.base, J.hok, rfl, q⟩
    | .brk, ⟨_, _, _, q⟩ => exact q.elim
    | .cont, ⟨_, _, _, q⟩ => exact q.elim

/-- the law's call at the claim's caller, over an abstract heap that tracks the script at most -/
theorem lawG0 {P : Program} {w : World} {K : PySem.W.Frag} {mg mb : Str → Option Value} {CX : CXT} {n : Nat} {fa a : Addr} {fd : FuncData} {x : Str} {sp : Sp} {t : Shared} {vs : List Value} {H : Hp}
    (kin : K.In t.heap) (hm : t.heap.Ns mainGlobals mg) (hb : t.heap.Ns builtinsNs mb) (hbb : ∀ y : Str, y ≠ "__name__" → mb y = bootBuiltins y) (lim : t.heap.NoLimit) (gens : t.gens = #[])
    (ha : t.heap.get? a = some { cls := .type "list", data := .seq vs.toArray }) (room : Room n callerA)
    (F : ∀ B : Heap, K.In B → B.Ns mainGlobals mg → FnG P w K mg B CX n fa fd [x] sp) (bi : ∀ (s : Shared) (u : Value), BindsTo s fd ⟨[u], []⟩ [(x, u)])
    (z : sp [.ref a] H (fun v _ => v = .bl true) fun _ _ _ => False) (noX : ∀ H e s', CX [] H t (fun _ _ _ => False) e s' → False)
    (only : Only H) (hok : HOk P w H t.heap) (hA : ∀ b, H b ≠ none → b = a) (hK : H a ≠ none → K.lookup a = none) :
    codeAny (model P w) callerA (.call (.ref fa) ⟨[.ref a], []⟩) (fun r s' => r = .ok (.ret (.bool true)) ∧ OldK t.heap s'.heap ∧ s'.os = t.os ∧ AllBare s'.gens) t := by
  have free : ∀ {b : Addr}, b ≠ a → H b = none := fun {b} hne => Classical.byContradiction fun q => hne (hA b q)
  have low : ∀ {b : Addr} {o : Obj}, t.heap.get? b = some o → H b = none → (hidT t.heap H).get? b = some o := fun e q => hidT_get e q
  have dict : ∀ {b : Addr} {o : Obj} {es : Array DictEntry} {ep : Nat}, t.heap.get? b = some o → o.data = .dict es ep → H b = none := fun {b o es ep} e d => free fun q => by
    subst q
    rw [ha] at e
    cases e
    exact nomatch (show Data.seq vs.toArray _ = Data.dict es ep from d)
  have ns : ∀ {b : Addr} {m : Str → Option Value}, t.heap.Ns b m → (hidT t.heap H).Ns b m := fun ⟨o, es, ep, e, d, r⟩ => ⟨o, es, ep, low e (dict e d), d, r⟩
  have kb : K.In (hidT t.heap H) := fun b o e => low (kin b o e) (by
    by_cases q : b = a
    · subst q
      exact Classical.byContradiction fun y => by rw [hK y] at e; cases e
    · exact free q)
  obtain ⟨mc, l1, l2⟩ := lim
  have env : Env0 P w K mg (hidT t.heap H) callerA [] t H :=
    { frames := rfl, mod := ⟨kb, ns hm, ⟨mb, ns hb, hbb⟩, ⟨mc, ns l1, l2⟩⟩, bs := fun b o e => of_hidT e, bsz := Nat.le_of_eq (hidT_size _ _), funs := trivial,
      frf := fun b q => absurd (show b ∈ ([] : List Addr) from q) (by simp), hok := hok, bare := .of_eq gens }
  refine codeAny_mono ((F _ kb (ns hm)).go callerA [] t H ⟨[.ref a], []⟩ [.ref a] [.ref a] _ _ rfl room env (bi t (.ref a)) (.cons rfl .nil) z) fun r s' y => ?_
  match r, y with
  | .error e, y => exact (noX H e s' y).elim
  | .ok (.ret u), ⟨v, H', os, bare, un, hok', ru, q⟩ =>
    cases (show v = .bl true from q)
    cases (show u = Value.bool true from ru)
    refine ⟨rfl, OldK.of_keep fun b o e => ?_, os, bare⟩
    match hq : H b with
    | none => exact un.keep b o e hq (by intro q; exact absurd (show b ∈ ([] : List Addr) from q) (by simp)) (by simp)
    | some u =>
      rcases only b with q | ⟨ob, xs, q⟩
      · rw [hq] at q; cases q
      · obtain ⟨e1, _⟩ := hok b _ q
        obtain ⟨e2, _⟩ := hok' b _ (un.frzs b ob _ q)
        rw [e] at e1; cases e1
        exact e2

theorem lawG {P : Program} {w : World} {K : PySem.W.Frag} {mg mb : Str → Option Value} {CX : CXT} {n : Nat} {fa a : Addr} {fd : FuncData} {x : Str} {sp : Sp} {t : Shared} {vs : List Value} {ns : List Int}
    (kin : K.In t.heap) (hm : t.heap.Ns mainGlobals mg) (hb : t.heap.Ns builtinsNs mb) (hbb : ∀ y : Str, y ≠ "__name__" → mb y = bootBuiltins y) (lim : t.heap.NoLimit) (gens : t.gens = #[])
    (ha : t.heap.get? a = some { cls := .type "list", data := .seq vs.toArray }) (hi : IntsAre vs ns) (hl : ns.length ≤ sizeLine) (room : Room n callerA)
    (F : ∀ B : Heap, K.In B → B.Ns mainGlobals mg → FnG P w K mg B CX n fa fd [x] sp) (bi : ∀ (s : Shared) (u : Value), BindsTo s fd ⟨[u], []⟩ [(x, u)])
    (z : ∀ H : Hp, Only H → SqL K H a (ns.map V.int) → sp [.ref a] H (fun v _ => v = .bl true) fun _ _ _ => False) (noX : ∀ H e s', CX [] H t (fun _ _ _ => False) e s' → False) :
    codeAny (model P w) callerA (.call (.ref fa) ⟨[.ref a], []⟩) (fun r s' => r = .ok (.ret (.bool true)) ∧ OldK t.heap s'.heap ∧ s'.os = t.os ∧ AllBare s'.gens) t := by
  have rv := vals_ints hi
  match hk : K.lookup a with
  | some o =>
    have e := kin a o hk
    rw [ha] at e
    cases e
    have on : Only fun _ => none := fun _ => .inl rfl
    exact lawG0 kin hm hb hbb lim gens ha room F bi (z _ on (.inr ⟨_, vs.toArray, _, hk, rfl, rfl, rfl, by rw [List.size_toArray, hi.length]; exact hl, by simpa using rv⟩)) noX on
      (fun b u q => nomatch (show (none : Option HO) = some u from q)) (fun b q => absurd rfl q) fun q => absurd rfl q
  | none =>
    have at0 : ∀ {b : Addr}, b ≠ a → (if b = a then some (HO.frz { cls := .type "list", data := .seq vs.toArray } (.lst (ns.map V.int))) else none) = none := fun q => if_neg q
    have on : Only fun b => if b = a then some (HO.frz { cls := .type "list", data := .seq vs.toArray } (.lst (ns.map V.int))) else none := fun b => by
      by_cases q : b = a
      · exact .inr ⟨_, _, if_pos q⟩
      · exact .inl (if_neg q)
    refine lawG0 kin hm hb hbb lim gens ha room F bi (z _ on (.inl (.inr ⟨_, if_pos rfl⟩))) noX on (fun b u q => ?_) (fun b q => Classical.byContradiction fun y => q (if_neg y)) fun _ => hk
    by_cases y : b = a
    · subst y
      cases (if_pos rfl).symm.trans q
      exact ⟨ha, by rw [List.length_map]; exact hl, vs, _, rv, ha⟩
    · cases (at0 y).symm.trans q

/-- the goal that the head leaves, from the law's promise -/
theorem walkG {l : PySem.W.OpenLaw} {m n : Nat} {q : Program} {loose : List Str} {XP : (Str → Option Value) → Heap → Prop} {YP : World → Heap → Prop} {d : DefRec} {K : Params → PySem.W.Frag} {CX : CXT} {sp : PySem.W.Frag → Sp} {x : Str}
    (hn : l.most = some m) (hm : m ≤ sizeLine) (hdf : d.params.defaults = []) (room : Room n callerA) (hY : ∀ (w : World) (h : Heap), YP w h → (K w.params).In h)
    (F : ∀ (w : World) (mg : Str → Option Value) (fa : Addr) (h : Heap), (K w.params).In h → h.Ns mainGlobals mg → mg d.name = some (.ref fa) →
      ∃ fd : FuncData, (∀ (s : Shared) (u : Value), BindsTo s fd ⟨[u], []⟩ [(x, u)]) ∧
        ∀ B : Heap, (K w.params).In B → B.Ns mainGlobals mg → FnG l.prog w (K w.params) mg B CX n fa fd [x] (sp (K w.params)))
    (z : ∀ (K : PySem.W.Frag) (H : Hp) (a : Addr) (ns : List Int), ns.length ≤ m → Only H → SqL K H a (ns.map V.int) → sp K [.ref a] H (fun v _ => v = .bl true) fun _ _ _ => False)
    (noX : ∀ (H : Hp) (s : Shared) (e : Value) (s' : Shared), CX [] H s (fun _ _ _ => False) e s' → False) : PySem.W.WalkO q loose XP YP l.row.toRowW d [] (fun f vs => PySem.call f vs) :=
  Att.attach_call hn hdf fun w s0 s1 mg mb fa o pm cd doc a vs ns G Y ho hd hcd hmg hobj hints hlen hg =>
    have ⟨fd, hb, hF⟩ := F w mg fa _ (hY w _ Y) G.T.g hmg
    lawG (hY w _ Y) G.T.g G.T.b G.T.builtins G.T.nolimit hg hobj hints (Nat.le_trans hlen hm) room hF hb (fun H hO hS => z (K w.params) H a ns hlen hO hS) fun H e s' => noX H s1 e s'
end Xk

set_option Elab.async false
set_option linter.all false
set_option maxRecDepth 100000
namespace Xk
open PySem PySem.Spec PyProof.Rows L2

/-- ** with a whole exponent: base's bits times exponent within 2^27 -/
def CPowW (i j : Int) : Prop := 0 ≤ j ∧ (Builtin.Int.intBits i : Int) * j ≤ 2 ^ 27
section
variable {X : Cx}
theorem op_powW : OpR X (binaryOp .Pow) (rI CPowW fun i j => .int (i ^ j.toNat)) := opI fun _ _ _ _ _ _ _ hc q => pow_int hc.1 hc.2 q
end
theorem bits_le {i : Int} {n : Nat} (h : i.natAbs < 2 ^ n) : Builtin.Int.intBits i ≤ n := by
  unfold Builtin.Int.intBits
  split
  · omega
  · rename_i h0
    have h0' : i.natAbs ≠ 0 := by
      intro z
      apply h0
      simp [Int.natAbs_eq_zero.mp z]
    have := (Nat.log2_lt h0').mpr h
    omega
theorem powW {i : Int} {n : Nat} {j : Int} (h : i.natAbs < 2 ^ n) (h0 : 0 ≤ j) (hj : j ≤ 3) (hn : n ≤ 40000000) : CPowW i j := by
  refine ⟨h0, ?_⟩
  have h1 := bits_le h
  have : (Builtin.Int.intBits i : Int) * j ≤ 40000000 * 3 := by
    refine Int.mul_le_mul ?_ hj h0 (by omega)
    omega
  refine Int.le_trans this (by decide)

/-! ### xs[i] read for op= -/
section
variable {X : Cx}
theorem get_list : PGet X (rIxL X.K) := by
  intro pins s σ H o i ov iv Q I ro ri h
  obtain ⟨p, xs, k, z, rfl, rfl, hq, he, q⟩ := h
  cases ro
  obtain ⟨t, rfl⟩ := ri
  obtain ⟨its, r, pl, hz⟩ := I.list hq
  obtain ⟨j, h1, h2, h3, h4, h5⟩ := atI_get he
  obtain ⟨u, eu, ru⟩ := r.get h2
  have hl := r.length
  have hn := line63
  by_cases h0 : 0 ≤ k
  · have hj : k.toNat = j := by
      rw [seqIndex_of h0 h5] at h1
      exact Option.some.inj h1
    exact wpAny_getItem_list pl.isList h0 (by omega) (by rw [hj]; simpa using eu) ⟨z, H, I, ru, q⟩
  · have hj : (k + (its.toArray.size : Int)).toNat = j := by
      rw [seqIndex_neg (by omega) h4] at h1
      rw [List.size_toArray, ← hl]
      exact Option.some.inj h1
    exact wpAny_getItem_list_neg pl.isList (by omega) (by rw [List.size_toArray] <;> omega) (by omega) (by rw [hj]; simpa using eu) ⟨z, H, I, ru, q⟩
end

/-! ### xs[a:c] = ys -/
section
variable {X : Cx} {o : Expr} {lo hi : Option Expr} {to : TE} {tl th : TO} {p2 pos : Pos}
def gSlc (to : TE) (tl th : TO) : TG := fun v σ H Q => to σ H fun x H1 => tl σ H1 fun l H2 => th σ H2 fun u H3 =>
  ∃ (p b : Addr) (xs ys : List V) (a c : Int), x = .ref p ∧ v = .ref b ∧ l = some a ∧ u = some c ∧ H3 p = some (.lst xs) ∧ H3 b = some (.lst ys) ∧ p ≠ b ∧ 0 ≤ a ∧ a ≤ c ∧ c ≤ xs.length ∧ xs.length + ys.length ≤ sizeLine ∧
    Q σ (upd H3 p (.lst (xs.take a.toNat ++ ys ++ xs.drop c.toNat)))
theorem pg_slc (ho : PE X o to) (hl : PO X lo tl) (hu : PO X hi th) : PG X (.Subscript o (.Slice lo hi none p2) pos) (gSlc to tl th) := by
  refine ⟨fun pins s σ H v u Q I r z => ?_⟩
  rw [arm_assign_Subscript]
  refine wpAny_bind (wpAny_holding (thn (ho.run pins s σ H _ I z) fun ov s1 ⟨x, H1, I1, r1, q1⟩ => ?_))
  refine wpAny_bind (wpAny_holding (wpAny_Slice (thn (hl.run pins s1 σ H1 _ I1 q1) fun vl s2 ⟨l, H2, I2, pl, q2⟩ => thn (hu.run pins s2 σ H2 _ I2 q2) fun vu s3 ⟨c', H3, I3, pu, q3⟩ => ?_)))
  rw [evalPart_none]
  refine wpAny_pure ?_
  obtain ⟨p, b, xs, ys, a, c, rfl, rfl, rfl, rfl, hp, hb, hne, h0, hac, hc, hz, q⟩ := q3
  cases r1
  cases r
  cases pl with
  | int _ ta =>
    cases pu with
    | int _ tc =>
      have I4 : Inv X pins σ H3 { s3 with heap := s3.heap.push { cls := .type "slice", data := .fields #[.int a ta, .int c tc, .none] } } := I3.kept (t' := s3.toks) fun b ob q => Heap.get?_push_of_some _ q
      refine wpAny_bind (wpAny_standAt (wpAny_bind (wpAny_holding (set_slice I4 hp hb hne (Heap.IsSliceOf.new ..) ⟨ta, rfl⟩ ⟨tc, rfl⟩ h0 hac hc hz fun s' I5 => ?_))))
      exact wpAny_release ⟨σ, _, I5, q⟩
end

/-! ### repr of lists -/
section
variable {X : Cx}
mutual
theorem dp_nodict {K : PySem.W.Frag} {H : Hp} : ∀ (d : PyData) (v : V), Dp K H v d → d.hasDict = false
  | .none, _, _ => rfl
  | .bool _, _, _ => rfl
  | .int _, _, _ => rfl
  | .str _, _, _ => rfl
  | .list ds, _, h => by
    cases h with
    | lst _ a => exact dp_nodictAll ds _ a
  | .tuple ds, _, h => by
    cases h with
    | tup _ a => exact dp_nodictAll ds _ a
  | .dict _, _, h => by cases h
theorem dp_nodictAll {K : PySem.W.Frag} {H : Hp} : ∀ (ds : List PyData) (vs : List V), DpAll K H vs ds → PyData.hasDictAll ds = false
  | [], _, _ => rfl
  | d :: ds, _, h => by
    cases h with
    | cons a b =>
      show (d.hasDict || PyData.hasDictAll ds) = false
      rw [dp_nodict d _ a, dp_nodictAll ds _ b]
      rfl
end
def rReprD (K : PySem.W.Frag) : List V → Hp → VK → Prop := fun xs H Q => ∃ a d, xs = [.ref a] ∧ Dp K H (.ref a) d ∧ d.showable = true ∧ d.depth ≤ 60 ∧ d.shown.length ≤ sizeLine ∧ Q (.str d.shown) H
theorem call_reprD (hG : X.A.guards = some []) (hu : X.A.units + 64 < cLine) : CallR X (.builtin "repr") (rReprD X.K) := by
  intro pins s σ H xs us Q I r h
  obtain ⟨a, d, rfl, hd, hs, hdp, hz, q⟩ := h
  obtain ⟨u, rfl, rfl⟩ := vals1 r
  obtain ⟨as, rd⟩ := Dp.reads I d _ _ hd rfl
  exact repr_of_reads' rd hs (fun z => by rw [dp_nodict d _ hd] at z; cases z) hG (by omega) (fun b o e => e) (fun h' u tk k => ⟨.str d.shown, H, I.kept k, ⟨u, rfl⟩, q⟩) hz
end
end Xk

set_option Elab.async false
set_option linter.all false
set_option maxRecDepth 100000
namespace Xk
open PySem PySem.Spec PyProof.Rows L2
/-! ### list(range(a, b, c)) -/
def rg3V (i c : Int) (n : Nat) : List V := (List.range n).map fun k => V.int (i + (k : Nat) * c)
theorem rg3V_length (i c : Int) (n : Nat) : (rg3V i c n).length = n := by unfold rg3V; simp
theorem vals_rg3 {i c : Int} {n : Nat} {acc : Array Value} (h : ItemsOf (fun k v => ∃ t, v = .int (i + k * c) t) acc n) : Vals (rg3V i c n) acc.toList := by
  have e : acc.toList.length = n := by rw [Array.length_toList]; exact h.1
  unfold rg3V
  rw [← e]
  refine vals_of_get _ (fun k => V.int (i + (k : Nat) * c)) fun j u hu => ?_
  exact h.2 j u (by simpa using hu)
def tLst3 (ta : TA) : TE := fun σ H Q => ta σ H fun vs H1 => ∃ (i j c : Int) (n : Nat), vs = [.int i, .int j, .int c] ∧ RgC i j c n ∧ n ≤ 2 ^ 24 ∧ ∀ q, H1 q = none → Q (.ref q) (upd H1 q (.lst (rg3V i c n)))
section
variable {X : Cx} {a b c : Expr} {ta : TA} {p pos p1 pos1 : Pos}
theorem pe_listRg3 (calm : X.calm = true) (hl : Gl X "list") (ml : X.mg "list" = none) (hg : Gl X "range") (hm : X.mg "range" = none) (ha : PA X [a, b, c] ta)
    (hs : starEach [a, b, c] X.env = (false, eval a X.env) :: starEach [b, c] X.env := by rfl) (hpl : (backTo pos (starEach [b, c] X.env)).any (·.1) = false := by rfl)
    (na : starEach [Expr.Call (.Name "range" p) [a, b, c] [] pos] X.env = (false, eval (Expr.Call (.Name "range" p) [a, b, c] [] pos) X.env) :: starEach [] X.env := by rfl) :
    PE X (.Call (.Name "list" p1) [.Call (.Name "range" p) [a, b, c] [] pos] [] pos1) (tLst3 ta) := by
  refine ⟨fun pins s σ H Q I z => ?_⟩
  refine Call_ (ld_blt I hl ml boot_list (PyProof.Rows.callWith_type1 (args_cons (Call_ (ld_blt I hg hm boot_range (PyProof.Rows.callWith_type1 (thn (ha.run pos pins s σ H _ I z) fun us s1 ⟨vs, H1, I1, r1, q1⟩ => ?_) hs hpl))) na) na))
  obtain ⟨i, j, k, n, e, ⟨c0, c1, c2, c3⟩, hn, q⟩ := q1
  subst e
  cases r1 with
  | cons r rr =>
    cases rr with
    | cons r' rr =>
      cases rr with
      | cons r'' rr =>
        cases rr
        obtain ⟨t, rfl⟩ := r
        obtain ⟨t', rfl⟩ := r'
        obtain ⟨t'', rfl⟩ := r''
        refine call_range_3 c0 (args_nil ?_) (.inl (PyProof.noPylong_small c1))
        have I2 : Inv X pins σ H1 { s1 with heap := s1.heap.push { cls := .type "range", data := .fields #[.int i t, .int j t', .int k t''] }, toks := s1.toks } := I1.kept fun b o e => Heap.get?_push_of_some _ e
        refine call_list_range (n := n) (I2.ok.hd calm) (IsRange.new ..) c2 c3 hn fun h' tk acc c' hk e' hi => ?_
        refine ⟨.ref _, upd H1 _ (.lst (rg3V i k n)), I2.laid hk (Nat.le_refl _) (show ObjOk X.prog X.w _ _ _ (.lst (rg3V i k n)) from ⟨?_, acc.toList, c', vals_rg3 hi, ?_⟩), rfl, q _ (I2.hok.fresh (Nat.le_refl _))⟩
        · rw [rg3V_length]; exact hn
        · rw [Array.toArray_toList]; exact e'
end
end Xk

set_option Elab.async false
set_option linter.all false
set_option maxRecDepth 100000
namespace Xk
open PySem PySem.Spec PyProof.Rows L2

section
variable {P : Program} {w : World} {K : PySem.W.Frag} {mg : Str → Option Value} {base : Heap}
/-- a def by its body, the guards known, nothing raised -/
theorem okG {x qual : Str} {st : Stmt} {f : Addr} {fd : FuncData} {N ps : List Str} {k : Nat} {sp : Sp} (F : Fun K x qual st f fd) (S : FnScope N ps (defScope st)) (cnt : ∀ vs H Q E, sp vs H Q E → vs.length = ps.length)
    (body : ∀ (cdv : Value) (A : Around) (ou : List Env) (t : Shared) (H : Hp) (vs : List V) (Q : VK) (E : XK), A.guards = some [] → Room k (A.deeper (envOfC qual (defScope st) t.heap.objs.size f cdv)) → sp vs H Q E →
      ∃ r, PSs (cxOf CX0 P w K mg base N qual (defScope st) f cdv A ou t H E).nox (defBody st) r ∧ r ⟨fun _ H' => Q .non H', Q, fun _ _ => False, fun _ _ => False⟩ (L2.start N vs) H) : FnG P w K mg base CX0 (k + 1) f fd ps sp := by
  obtain ⟨oc, od, kV, doc, pm, an, cdv, ct, osl, rfl, lk, hcd⟩ := F.ex
  refine fnG_of lk hcd S cnt fun A ou t H vs Q E hG hr hsp => ?_
  obtain ⟨r, h, q⟩ := body cdv A ou t H vs Q E hG hr hsp
  exact ⟨r, h.nox, q⟩
end

/-! ### words -/
section
variable {X : Cx} {x : Str} {pos pos' : Pos} {e : Expr} {te : TE} {op : Operator} {ti : TIp}
theorem sset (i : Nat) (nd : X.N.Nodup) (he : PE X e te) (hi : X.N[i]? = some x := by rfl) (hx : Loc X.env.scope x := by first | exact Or.inl rfl | exact Or.inr rfl)
    (hs : swapsWith e (some (.Name x pos')) pos.line X.env = pure false := by rfl) (hf : X.fn x = true ∨ X.env.scope.names.lookup x = some .local := by first | exact Or.inl rfl | exact Or.inr rfl) : PS X (.Assign [.Name x pos'] e pos) (tAsg te (gName i)) := ps_set nd hi hx he hs hf
theorem gset (i : Nat) (nd : X.N.Nodup) (hi : X.N[i]? = some x := by rfl) (hx : Loc X.env.scope x := by first | exact Or.inl rfl | exact Or.inr rfl) (hf : X.fn x = true ∨ X.env.scope.names.lookup x = some .local := by first | exact Or.inl rfl | exact Or.inr rfl) : PG X (.Name x pos) (gName i) := pg_name nd hi hx hf
theorem saug (i : Nat) (nd : X.N.Nodup) (he : PE X e te) (ho : PIp X op ti) (hi : X.N[i]? = some x := by rfl) (hx : Loc X.env.scope x := by first | exact Or.inl rfl | exact Or.inr rfl) (hf : X.fn x = true ∨ X.env.scope.names.lookup x = some .local := by first | exact Or.inl rfl | exact Or.inr rfl) : PS X (.AugAssign (.Name x pos') op e pos) (tAug i te ti) := ps_aug nd hi hx he ho hf
end
/-! ### the rules that speak of the written part, the part given -/
section
variable {X : Cx} (K : PySem.W.Frag) {e a b l o : Expr} {es ts : List Expr} {te ta tb tl to : TE} {t : TA} {g : TGs} {pos cpos apos p p1 p2 p3 tpos : Pos} {tg : Expr} {T id : String} {name : Str}
theorem ix_listK (hK : X.K = K := by rfl) : IxR X (rIxL K) := hK ▸ ix_list
theorem ix_tupK (hK : X.K = K := by rfl) : IxR X (rIxT K) := hK ▸ ix_tup
theorem sl_listK (hK : X.K = K := by rfl) : SlR X (rSlL K) := hK ▸ sl_list
theorem sl_tupK (hK : X.K = K := by rfl) : SlR X (rSlT K) := hK ▸ sl_tup
def rLen (K : PySem.W.Frag) : List V → Hp → VK → Prop := fun xs H Q => ∃ p ys, xs = [.ref p] ∧ (SqL K H p ys ∨ SqT K H p ys) ∧ Q (.int ys.length) H
theorem lenK (hK : X.K = K := by rfl) : CallR X (.builtin "len") (rLen K) := hK ▸ call_len_seq
def rListOf (K : PySem.W.Frag) : List V → Hp → VK → Prop := fun xs H Q => ∃ p ys, xs = [.ref p] ∧ (SqL K H p ys ∨ SqT K H p ys) ∧ ∀ l, H l = none → Q (.ref l) (upd H l (.lst ys))
theorem listK (hK : X.K = K := by rfl) : CallR X (.type "list") (rListOf K) := hK ▸ call_list_of
def rTupOf (K : PySem.W.Frag) : List V → Hp → VK → Prop := fun xs H Q => ∃ p ys, xs = [.ref p] ∧ ((SqL K H p ys ∧ ∀ l, H l = none → Q (.ref l) (upd H l (.tup ys))) ∨ (SqT K H p ys ∧ Q (.ref p) H))
theorem tupleK (hK : X.K = K := by rfl) : CallR X (.type "tuple") (rTupOf K) := hK ▸ call_tuple_of
theorem sumK (hc : X.calm = true) (hK : X.K = K := by rfl) : CallR X (.builtin "sum") (rSum K) := hK ▸ cr_sum hc
theorem minK (hc : X.calm = true) (hK : X.K = K := by rfl) : CallR X (.builtin "min") (rMin K) := hK ▸ cr_min hc
theorem maxK (hc : X.calm = true) (hK : X.K = K := by rfl) : CallR X (.builtin "max") (rMax K) := hK ▸ cr_max hc
theorem allK (hc : X.calm = true) (hK : X.K = K := by rfl) : CallR X (.builtin "all") (rAll K) := hK ▸ cr_all hc
theorem anyK (hc : X.calm = true) (hK : X.K = K := by rfl) : CallR X (.builtin "any") (rAny K) := hK ▸ cr_any hc
theorem sortedK (hK : X.K = K := by rfl) : CallR X (.builtin "sorted") (rSortedI K) := hK ▸ cr_sortedI
theorem sortedRK (hK : X.K = K := by rfl) : CallRK X (.builtin "sorted") [Str.ofString "reverse"] (rSortedKw K true [.bl true]) := hK ▸ cr_sortedRev
theorem reprK (hG : X.A.guards = some []) (hu : X.A.units + 64 < cLine) (hK : X.K = K := by rfl) : CallR X (.builtin "repr") (rReprD K) := hK ▸ call_reprD hG hu
theorem eqDK (hu : X.A.units + 64 < cLine) (hK : X.K = K := by rfl) : OpR X (compareOp .Eq) (rEqD K) := hK ▸ op_eqD hu
theorem neDK (hu : X.A.units + 64 < cLine) (hK : X.K = K := by rfl) : OpR X (compareOp .NotEq) (rNeD K) := hK ▸ op_neD hu
theorem inK (hK : X.K = K := by rfl) : OpR X (compareOp .In) (rIn K false) := hK ▸ op_in_seq
theorem notInK (hK : X.K = K := by rfl) : OpR X (compareOp .NotIn) (rIn K true) := hK ▸ op_notIn_seq
theorem lcountK (hK : X.K = K := by rfl) : MtR X "list.count" (rCntI K) := hK ▸ mt_lcount
theorem lindexK (hK : X.K = K := by rfl) : MtR X "list.index" (rIndex K) := hK ▸ mt_index
theorem getK (hK : X.K = K := by rfl) : PGet X (rIxL K) := hK ▸ get_list
theorem pi_listK (h : PE X l tl) (hK : X.K = K := by rfl) : PI X tg l (iList K tl) := hK ▸ pi_list h
theorem pi_tupK (h : PE X l tl) (hK : X.K = K := by rfl) : PI X tg l (iTup K tl) := hK ▸ pi_tup h
theorem pi_enumK {elts : List Expr} {kk : Nat} (hg : Gl X "enumerate") (hm : X.mg "enumerate" = none) (ha : PA X [e] t) (hs : starEach [e] X.env = [(false, eval e X.env)] := by rfl) (hK : X.K = K := by rfl) :
    PI X (.Tuple elts kk tpos) (.Call (.Name "enumerate" p) [e] [] pos) (iEnum K t) := hK ▸ pi_enum hg hm ha hs
theorem pi_reversedK (hg : Gl X "reversed") (hm : X.mg "reversed" = none) (ha : PA X [e] t) (hs : starEach [e] X.env = [(false, eval e X.env)] := by rfl) (hK : X.K = K := by rfl) : PI X tg (.Call (.Name "reversed" p) [e] [] pos) (iRev K t) := hK ▸ pi_reversed hg hm ha hs
theorem pe_revLK {k : Nat} (he : PE X e te) (hK : X.K = K := by rfl) : PE X (.Subscript e (.Slice none none (some (.UnaryOp .USub (.Constant (.int 1) k p1) p2)) p3) pos) (tRevL K te) := hK ▸ pe_revL he
theorem pg_tupK {k : Nat} (n : Nat) (hc : X.calm = true) (h : PGs X es g) (hn : (assignEach es X.env).length = n := by rfl) (hst : (assignEach es X.env).findIdx? (·.1) = none := by rfl) (hK : X.K = K := by rfl) : PG X (.Tuple es k pos) (gTup K n g) := hK ▸ pg_tup hc h hn hst
theorem pi_zipK {e2 : Expr} {elts : List Expr} {kk : Nat} (hg : Gl X "zip") (hm : X.mg "zip" = none) (ha : PA X [e, e2] t)
    (hs : starEach [e, e2] X.env = (false, eval e X.env) :: starEach [e2] X.env := by rfl) (hpl : (backTo pos (starEach [e2] X.env)).any (·.1) = false := by rfl) (hK : X.K = K := by rfl) :
    PI X (.Tuple elts kk tpos) (.Call (.Name "zip" p) [e, e2] [] pos) (iZip K t) := hK ▸ pi_zip hg hm ha hs hpl
theorem pe_bmK {r : V → List V → Hp → VK → Prop} (pa : PlainAttrs T) (slot : Slot T name id) (hty : typeOf (.builtin id) = pure (.type "method_descriptor")) (hm : MtR X id r) (ho : PE X o to) (ha : PA X (e :: es) t)
    (hbase : attributeBase o name X.env (eval o X.env) = eval o X.env := by rfl)
    (hfew : ((backTo cpos (starEach (e :: es) X.env)).all (fun x => !x.1) && (backToKw cpos (keywordEach [] X.env)).all (fun x => x.1.isSome) && decide ((e :: es).length + ([] : List Keyword).length + (if ([] : List Keyword).isEmpty then 0 else 1) < 30)) = true := by rfl)
    (hline : (apos.endLine == cpos.line) = true := by rfl) (hs : starEach (e :: es) X.env = (false, eval e X.env) :: starEach es X.env := by rfl) (hplain : (backTo cpos (starEach es X.env)).any (·.1) = false := by rfl) (hK : X.K = K := by rfl) :
    PE X (.Call (.Attribute o name apos) (e :: es) [] cpos) (tBM K T r to t) := hK ▸ pe_bm pa slot hty hm ho ha hbase hfew hline hs hplain
theorem pe_bm0K {r : V → List V → Hp → VK → Prop} (pa : PlainAttrs T) (slot : Slot T name id) (hty : typeOf (.builtin id) = pure (.type "method_descriptor")) (hm : MtR X id r) (ho : PE X o to)
    (hbase : attributeBase o name X.env (eval o X.env) = eval o X.env := by rfl) (hline : (apos.endLine == cpos.line) = true := by rfl) (hK : X.K = K := by rfl) : PE X (.Call (.Attribute o name apos) [] [] cpos) (tBM0 K T r to) := hK ▸ pe_bm0 pa slot hty hm ho hbase hline
def tTruth (K : PySem.W.Frag) (ta : TE) : TT := fun σ H Q => ta σ H fun x H' => ∃ k, TruV K x H' k ∧ Q k H'
theorem pt_truthK (ha : PE X a ta) (he : ∀ whole, isTrue a X.env whole = (do let v ← whole; standAt a.pos; holding [v] (truthy v)) := by intro _; rfl) (hK : X.K = K := by rfl) : PT X a (tTruth K ta) := hK ▸ pt_truth ha he
end
end Xk

set_option Elab.async false
set_option linter.all false
set_option maxRecDepth 100000
namespace Xk
open PySem PySem.Spec PyProof.Rows L2

section
variable {K : PySem.W.Frag} {σ : L2.St} {H : Hp} {Q : VK} {R : List V → Hp → Prop} {ta tb te tc tv : TE} {tA : TA} {t u : TT} {v x y : V} {i j : Int} {Qb : Bool → Hp → Prop}
  {nx bk ct : L2.St → Hp → Prop} {rt : VK} {s1 s2 : TS} {g g1 : TG} {gs : TGs}
/-! ### expressions -/
theorem r_var {n : Nat} (h : σ[n]? = some (some v)) (q : Q v H) : tVar n σ H Q := ⟨v, h, q⟩
theorem r_c (q : Q v H) : tC v σ H Q := q
theorem r_op {r : R2} (h : ta σ H fun x H1 => tb σ H1 fun y H2 => r x y H2 Q) : tOp r ta tb σ H Q := h
theorem r_un {r : V → Hp → VK → Prop} (h : ta σ H fun x H1 => r x H1 Q) : tUn r ta σ H Q := h
theorem r_I0 {f : Int → Int → V} (q : Q (f i j) H) : rI0 f (.int i) (.int j) H Q := ⟨i, j, rfl, rfl, q⟩
theorem r_I {C : Int → Int → Prop} {f : Int → Int → V} (hc : C i j) (q : Q (f i j) H) : rI C f (.int i) (.int j) H Q := ⟨i, j, rfl, rfl, hc, q⟩
theorem r_U {f : Int → V} (q : Q (f i) H) : rU f (.int i) H Q := ⟨i, rfl, q⟩
theorem r_ixL {p : Addr} {xs : List V} (h : SqL K H p xs) (ha : atI xs i = some v) (q : Q v H) : rIxL K (.ref p) (.int i) H Q := ⟨p, xs, i, v, rfl, rfl, h, ha, q⟩
theorem r_ixT {p : Addr} {xs : List V} (h : SqT K H p xs) (ha : atI xs i = some v) (q : Q v H) : rIxT K (.ref p) (.int i) H Q := ⟨p, xs, i, v, rfl, rfl, h, ha, q⟩
theorem r_nil (q : R [] H) : tNil σ H R := q
theorem r_cons (h : ta σ H fun x H1 => tA σ H1 fun xs H2 => R (x :: xs) H2) : tCons ta tA σ H R := h
theorem r_lst (h : tA σ H fun xs H1 => xs.length ≤ sizeLine ∧ ∀ p, H1 p = none → Q (.ref p) (upd H1 p (.lst xs))) : tLst tA σ H Q := h
theorem r_tup (h : tA σ H fun xs H1 => xs.length ≤ sizeLine ∧ ∀ p, H1 p = none → Q (.ref p) (upd H1 p (.tup xs))) : tTup tA σ H Q := h
theorem r_call {sp : Sp} {dvs : List V} {E : XK} (h : tA σ H fun vs H1 => sp (vs ++ dvs) H1 Q E) : tCall sp dvs E tA σ H Q := h
theorem r_callK {sp : Sp} {gV : List V → List V → List V} {E : XK} {tk : TA} (h : tA σ H fun vs H1 => tk σ H1 fun zs H2 => sp (gV vs zs) H2 Q E) : tCallK sp gV E tA tk σ H Q := h
theorem r_cb {r : List V → Hp → VK → Prop} (h : tA σ H fun vs H1 => r vs H1 Q) : tCB r tA σ H Q := h
theorem r_ckw {r : List V → List V → Hp → VK → Prop} {tk : TA} (h : tA σ H fun vs H1 => tk σ H1 fun zs H2 => r vs zs H2 Q) : tCKw r tA tk σ H Q := h
theorem r_sl {r : V → Option Int → Option Int → Hp → VK → Prop} {tl th : TO} (h : te σ H fun x H1 => tl σ H1 fun l H2 => th σ H2 fun u H3 => r x l u H3 Q) : tSl r te tl th σ H Q := h
theorem r_part {Qo : Option Int → Hp → Prop} (h : te σ H fun x H1 => ∃ i, x = .int i ∧ Qo (some i) H1) : tPart te σ H Qo := h
theorem r_nopart {Qo : Option Int → Hp → Prop} (h : Qo none H) : tNoPart σ H Qo := h
theorem r_exi {Qo : Int → Prop} (h : Qo i) : ∃ j, V.int i = .int j ∧ Qo j := ⟨i, rfl, h⟩
theorem r_exb {b : Bool} {Qo : Bool → Prop} (h : Qo b) : ∃ j, V.bl b = .bl j ∧ Qo j := ⟨b, rfl, h⟩
theorem r_slL {p : Addr} {xs : List V} {lo hi : Option Int} (h : SqL K H p xs) (q : ∀ n, H n = none → Q (.ref n) (upd H n (.lst (cutV xs lo hi)))) : rSlL K (.ref p) lo hi H Q := ⟨p, xs, rfl, h, q⟩
theorem r_bm {T : String} {r : V → List V → Hp → VK → Prop} (h : te σ H fun x H1 => tyV K T x H1 ∧ tA σ H1 fun xs H2 => r x xs H2 Q) : tBM K T r te tA σ H Q := h
theorem r_bm0 {T : String} {r : V → List V → Hp → VK → Prop} (h : te σ H fun x H1 => tyV K T x H1 ∧ r x [] H1 Q) : tBM0 K T r te σ H Q := h
theorem ty_list {p : Addr} {xs : List V} (h : SqL K H p xs) : tyV K "list" (.ref p) H := .inl ⟨rfl, xs, h⟩
theorem r_append {p : Addr} {xs : List V} {y : V} (h : H p = some (.lst xs)) (hz : xs.length < sizeLine) (q : Q .non (upd H p (.lst (xs ++ [y])))) : rAppend (.ref p) [y] H Q := ⟨p, xs, y, rfl, rfl, h, hz, q⟩
theorem r_if {tif : TT} (h : tif σ H fun c H1 => if c = true then ta σ H1 Q else tb σ H1 Q) : tIf tif ta tb σ H Q := h
theorem r_andV (h : ta σ H fun x H1 => ∃ c, x = .bl c ∧ if c = true then tb σ H1 Q else Q (.bl false) H1) : tAndV ta tb σ H Q := h
theorem r_orV (h : ta σ H fun x H1 => ∃ c, x = .bl c ∧ if c = true then Q (.bl true) H1 else tb σ H1 Q) : tOrV ta tb σ H Q := h
theorem r_notV (h : ta σ H fun x H1 => ∃ c, x = .bl c ∧ Q (.bl (!c)) H1) : tNotV ta σ H Q := h
theorem r_eqI (q : Q (.bl (decide (i = j))) H) : rEq (.int i) (.int j) H Q := by
  refine ⟨rfl, ?_⟩
  have : decide (V.int i = V.int j) = decide (i = j) := by simp
  rw [this]
  exact q
theorem r_neI (q : Q (.bl (!decide (i = j))) H) : rNe (.int i) (.int j) H Q := by
  refine ⟨rfl, ?_⟩
  have : decide (V.int i = V.int j) = decide (i = j) := by simp
  rw [this]
  exact q
theorem r_eqS {a b : Str} (q : Q (.bl (decide (a = b))) H) : rEq (.str a) (.str b) H Q := by
  refine ⟨rfl, ?_⟩
  have : decide (V.str a = V.str b) = decide (a = b) := by simp
  rw [this]
  exact q
theorem r_neS {a b : Str} (q : Q (.bl (!decide (a = b))) H) : rNe (.str a) (.str b) H Q := by
  refine ⟨rfl, ?_⟩
  have : decide (V.str a = V.str b) = decide (a = b) := by simp
  rw [this]
  exact q
theorem r_len {p : Addr} {xs : List V} (h : SqL K H p xs) (q : Q (.int xs.length) H) : Xk.rLen K [.ref p] H Q := ⟨p, xs, rfl, .inl h, q⟩
theorem r_listOf {p : Addr} {xs : List V} (h : SqL K H p xs) (q : ∀ l, H l = none → Q (.ref l) (upd H l (.lst xs))) : rListOf K [.ref p] H Q := ⟨p, xs, rfl, .inl h, q⟩
theorem r_sum {p : Addr} {ns : List Int} (h : SqL K H p (ns.map V.int)) (q : Q (.int ns.sum) H) : rSum K [.ref p] H Q := ⟨p, ns, rfl, h, q⟩
theorem r_notT {A B : Prop} (h : B) : if (!true) = true then A else B := by simpa using h
theorem r_notF {A B : Prop} (h : A) : if (!false) = true then A else B := by simpa using h
/-! ### tests -/
theorem r_test (h : te σ H fun x H' => ∃ k, x = .bl k ∧ Qb k H') : tTest te σ H Qb := h
theorem r_tB (h : te σ H fun x H' => ∃ k, x = .bl k ∧ Qb k H') : tB te σ H Qb := h
theorem r_tand (h : t σ H fun c H1 => if c = true then u σ H1 Qb else Qb false H1) : tAnd t u σ H Qb := h
theorem r_tor (h : t σ H fun c H1 => if c = true then Qb true H1 else u σ H1 Qb) : tOr t u σ H Qb := h
theorem r_tnot (h : t σ H fun c H1 => Qb (!c) H1) : tNot t σ H Qb := h
theorem r_yes (h : Qb true H) : tYes σ H Qb := h
theorem r_dec {p : Prop} [Decidable p] {A B : Prop} (h1 : p → A) (h2 : ¬p → B) : if decide p = true then A else B := by
  by_cases h : p
  · rw [decide_eq_true h]; exact h1 h
  · rw [decide_eq_false h]; exact h2 h
theorem r_ndec {p : Prop} [Decidable p] {A B : Prop} (h1 : ¬p → A) (h2 : p → B) : if (!decide p) = true then A else B := by
  by_cases h : p
  · rw [decide_eq_true h]; exact h2 h
  · rw [decide_eq_false h]; exact h1 h
theorem r_itT {A B : Prop} (h : A) : if true = true then A else B := by rw [if_pos rfl]; exact h
theorem r_itF {A B : Prop} (h : B) : if false = true then A else B := by rw [if_neg Bool.false_ne_true]; exact h
/-! ### statements -/
theorem r_seq (h : s1 ⟨s2 ⟨nx, rt, bk, ct⟩, rt, bk, ct⟩ σ H) : tSeq s1 s2 ⟨nx, rt, bk, ct⟩ σ H := h
theorem r_cut {u : TS} (Mid : L2.St → Hp → Prop) (h : s1 ⟨Mid, rt, bk, ct⟩ σ H) (g : ∀ σ' H', Mid σ' H' → u ⟨nx, rt, bk, ct⟩ σ' H') : C8.tCut s1 u ⟨nx, rt, bk, ct⟩ σ H := ⟨Mid, h, g⟩
theorem r_next (h : nx σ H) : tNext ⟨nx, rt, bk, ct⟩ σ H := h
theorem r_asg (h : te σ H fun x H1 => g x σ H1 nx) : tAsg te g ⟨nx, rt, bk, ct⟩ σ H := h
theorem r_ret (h : te σ H rt) : tRet te ⟨nx, rt, bk, ct⟩ σ H := h
theorem r_drop (h : te σ H fun _ H1 => nx σ H1) : tDrop te ⟨nx, rt, bk, ct⟩ σ H := h
theorem r_ifS (h : t σ H fun b H1 => if b = true then s1 ⟨nx, rt, bk, ct⟩ σ H1 else s2 ⟨nx, rt, bk, ct⟩ σ H1) : tIfS t s1 s2 ⟨nx, rt, bk, ct⟩ σ H := h
theorem r_par {a b : Nat} (h : tA σ H fun vs H1 => ∃ v w, vs = [v, w] ∧ nx ((σ.set a (some v)).set b (some w)) H1) : tPar a b tA ⟨nx, rt, bk, ct⟩ σ H := h
theorem r_ex2 {f : V → V → Prop} (h : f x y) : ∃ v w, [x, y] = [v, w] ∧ f v w := ⟨x, y, rfl, h⟩
theorem r_brk (h : bk σ H) : tBreak ⟨nx, rt, bk, ct⟩ σ H := h
theorem r_cont (h : ct σ H) : tCont ⟨nx, rt, bk, ct⟩ σ H := h
theorem r_aug {n : Nat} {ti : TIp} (h : σ[n]? = some (some x)) (q : te σ H fun y H1 => ti x y H1 fun z H2 => nx (σ.set n (some z)) H2) : tAug n te ti ⟨nx, rt, bk, ct⟩ σ H := ⟨x, h, q⟩
theorem r_ipI {f : Int → Int → Int} (q : Q (.int (f i j)) H) : ipI f (.int i) (.int j) H Q := ⟨i, j, rfl, rfl, q⟩
theorem r_for {wi : TI} (h : wi σ H fun J H1 => ∃ W : Nat → Nat → L2.St → Hp → Prop, (∃ m, W 0 m σ H1) ∧ ∀ i m σ H, W i m σ H → (J.stop i H ∧ nx σ H) ∨ (J.go i H ∧ ∃ N : L2.St → Hp → Prop, (∀ σ' H', N σ' H' → ∃ m', m' < m ∧ W (i + 1) m' σ' H') ∧
    ∀ x H', J.yld i H x H' → g x σ H' fun σ2 H2 => s1 ⟨N, rt, nx, N⟩ σ2 H2)) : tFor wi g s1 ⟨nx, rt, bk, ct⟩ σ H := h
theorem r_augS {tget : V → V → Hp → VK → Prop} {ti : TIp} {ts : TSet} (h : ta σ H fun o H1 => tb σ H1 fun i H2 => tget o i H2 fun x H3 => te σ H3 fun y H4 => ti x y H4 fun z H5 => ts o i z H5 fun H6 => nx σ H6) : tAugS ta tb te tget ti ts ⟨nx, rt, bk, ct⟩ σ H := h
/-! ### targets -/
variable {Qs : L2.St → Hp → Prop}
theorem r_name {n : Nat} (q : Qs (σ.set n (some v)) H) : gName n v σ H Qs := q
theorem r_gtup {n : Nat} {p : Addr} {xs : List V} (h : SqT K H p xs) (hl : xs.length = n) (q : gs xs σ H Qs) : gTup K n gs (.ref p) σ H Qs := ⟨p, xs, rfl, h, hl, q⟩
theorem r_gcons {vs : List V} (q : g v σ H fun σ' H' => gs vs σ' H' Qs) : gCons g gs (v :: vs) σ H Qs := ⟨v, vs, rfl, q⟩
theorem r_gnil (q : Qs σ H) : gNil [] σ H Qs := ⟨rfl, q⟩
theorem r_gsub {ts : TSet} (h : te σ H fun o H1 => tv σ H1 fun i H2 => ts o i v H2 fun H3 => Qs σ H3) : gSub te tv ts v σ H Qs := h
theorem r_gslc {tl th : TO} (h : te σ H fun x H1 => tl σ H1 fun l H2 => th σ H2 fun u H3 => ∃ (p b : Addr) (xs ys : List V) (a c : Int), x = .ref p ∧ v = .ref b ∧ l = some a ∧ u = some c ∧ H3 p = some (.lst xs) ∧ H3 b = some (.lst ys) ∧ p ≠ b ∧ 0 ≤ a ∧ a ≤ c ∧ c ≤ xs.length ∧ xs.length + ys.length ≤ sizeLine ∧
    Qs σ (upd H3 p (.lst (xs.take a.toNat ++ ys ++ xs.drop c.toNat)))) : gSlc te tl th v σ H Qs := h
theorem r_setL {Qh : Hp → Prop} {p : Addr} {xs : List V} {n : Nat} (h : H p = some (.lst xs)) (hi : ixN xs.length i = some n) (q : Qh (upd H p (.lst (xs.set n v)))) : rSetL (.ref p) (.int i) v H Qh := ⟨p, xs, i, n, rfl, rfl, h, hi, q⟩
end
theorem szL {n : Nat} (h : Nat.ble n 16777216 = true) : n ≤ sizeLine := Nat.le_of_ble_eq_true h
theorem at_0 {x : V} {xs : List V} : atI (x :: xs) 0 = some x := at_of (j := 0) rfl rfl
theorem at_1 {x y : V} {xs : List V} : atI (x :: y :: xs) 1 = some y := at_of (j := 1) rfl rfl
theorem at_2 {x y z : V} {xs : List V} : atI (x :: y :: z :: xs) 2 = some z := at_of (j := 2) rfl rfl
theorem at_3 {x y z u : V} {xs : List V} : atI (x :: y :: z :: u :: xs) 3 = some u := at_of (j := 3) rfl rfl
theorem sq {K : PySem.W.Frag} {H : Hp} {p : Addr} {xs : List V} (h : H p = some (.lst xs)) : SqL K H p xs := .inl (.inl h)
theorem sqT {K : PySem.W.Frag} {H : Hp} {p : Addr} {xs : List V} (h : H p = some (.tup xs)) : SqT K H p xs := .inl (.inl h)

section
variable {w : World} {H : Hp} {σ : L2.St} {Q : VK} {te : TE} {tA : TA} {a : Addr} {k : Int} {S : Int → Bool} {n : Nat}
theorem r_set0 (q : ∀ p, H p = none → Q (.ref p) (upd H p (SetO w p (fun _ => false) 0))) : rSet0 w [] H Q := ⟨rfl, q⟩
theorem r_sin (h : H a = some (SetO w a S n)) (q : Q (.bl (S k)) H) : rSIn w (.int k) (.ref a) H Q := ⟨k, a, S, n, rfl, rfl, h, q⟩
theorem r_snotin (h : H a = some (SetO w a S n)) (q : Q (.bl (!S k)) H) : rSNotIn w (.int k) (.ref a) H Q := ⟨k, a, S, n, rfl, rfl, h, q⟩
theorem r_sadd0 (h : te σ H fun x H1 => (∃ a S n, x = V.ref a ∧ H1 a = some (SetO w a S n)) ∧ tA σ H1 fun xs H2 => rSAdd w x xs H2 Q) : tSAdd w te tA σ H Q := h
theorem r_sadd (h : H a = some (SetO w a S n)) (hn : n + 1 < 4096) (q : Q .non (upd H a (SetO w a (fun j => S j || decide (j = k)) (if S k = true then n else n + 1)))) : rSAdd w (.ref a) [.int k] H Q := ⟨a, k, S, n, rfl, rfl, h, hn, q⟩
end
/-! ### what a for walks -/
section
variable {K : PySem.W.Frag} {σ : L2.St} {H : Hp} {tA : TA} {te : TE} {R : L2.It → Hp → Prop}
theorem r_iEnum (h : tA σ H fun vs H1 => ∃ a xs, vs = [.ref a] ∧ SqL K H1 a xs ∧ R (Ite K a) H1) : iEnum K tA σ H R := h
theorem r_iList (h : te σ H fun x H1 => ∃ a, x = .ref a ∧ (∃ xs, SqL K H1 a xs) ∧ R (Itl K a) H1) : iList K te σ H R := h
theorem r_iTup (h : te σ H fun x H1 => ∃ a, x = .ref a ∧ (∃ xs, SqT K H1 a xs) ∧ R (Itt K a) H1) : iTup K te σ H R := h
theorem r_iRng1 (h : tA σ H fun vs H1 => ∃ j : Int, vs = [.int j] ∧ -(2 ^ 62) ≤ j ∧ j < 2 ^ 62 ∧ R (Itr 0 j.toNat) H1) : iRng1 tA σ H R := h
theorem r_iRng2 (h : tA σ H fun vs H1 => ∃ i j : Int, vs = [.int i, .int j] ∧ (-(2 ^ 62) ≤ i ∧ i < 2 ^ 62 ∧ -(2 ^ 62) ≤ j ∧ j < 2 ^ 62) ∧ R (Itr i (j - i).toNat) H1) : iRng2 tA σ H R := h
theorem r_iRng3 (h : tA σ H fun vs H1 => ∃ (i j c : Int) (n : Nat), vs = [.int i, .int j, .int c] ∧ RgC i j c n ∧ R (Itc i c n) H1) : iRng3 tA σ H R := h
theorem r_iZip (h : tA σ H fun vs H1 => ∃ a b xs ys, vs = [.ref a, .ref b] ∧ SqL K H1 a xs ∧ SqL K H1 b ys ∧ R (Itz K a b) H1) : iZip K tA σ H R := h
theorem r_lc {wi : TI} {g : TG} {tt : TT} {vs : List Nat} {Q : VK} (h : wi σ H fun J H1 => ∀ D, H1 D = none → ∃ W : Nat → Nat → Hp → Prop, (∃ m, W 0 m (upd H1 D (.lst []))) ∧ ∀ i m H, W i m H →
  (J.stop i H ∧ Q (.ref D) H) ∨ (J.go i H ∧ ∃ Nx : Hp → Prop, (∀ H', Nx H' → ∃ m', m' < m ∧ W (i + 1) m' H') ∧ ∀ x H', J.yld i H x H' → g x (wipe σ vs) H' fun σ2 H2 => wipe σ2 vs = wipe σ vs ∧ tt σ2 H2 fun b H3 =>
    if b = true then te σ2 H3 fun y H4 => ∃ acc, H4 D = some (.lst acc) ∧ acc.length < sizeLine ∧ Nx (upd H4 D (.lst (acc ++ [y]))) else Nx H3)) : tLc wi g tt te vs σ H Q := h
theorem r_lrg {tr : L2.St → Hp → (Int → Int → Hp → Prop) → Prop} {Q : VK} (h : tr σ H fun a b H1 => RgOk a b ∧ ∀ q, H1 q = none → Q (.ref q) (upd H1 q (.lst (rgV a b)))) : tLstRg tr σ H Q := h
theorem r_rg1 {Q : Int → Int → Hp → Prop} (h : te σ H fun x H1 => ∃ n, x = .int n ∧ Q 0 n H1) : tRg1 te σ H Q := h
theorem r_rg2 {tb : TE} {Q : Int → Int → Hp → Prop} (h : te σ H fun x H1 => tb σ H1 fun y H2 => ∃ i j, x = .int i ∧ y = .int j ∧ Q i j H2) : tRg2 te tb σ H Q := h
theorem r_l3 {Q : VK} (h : tA σ H fun vs H1 => ∃ (i j c : Int) (n : Nat), vs = [.int i, .int j, .int c] ∧ RgC i j c n ∧ n ≤ 2 ^ 24 ∧ ∀ q, H1 q = none → Q (.ref q) (upd H1 q (.lst (rg3V i c n)))) : tLst3 tA σ H Q := h
theorem r_revL {Q : VK} (h : te σ H fun x H1 => ∃ a xs, x = .ref a ∧ SqL K H1 a xs ∧ ∀ p, H1 p = none → Q (.ref p) (upd H1 p (.lst xs.reverse))) : tRevL K te σ H Q := h
theorem r_exr {a : Addr} {f : Addr → Prop} (h : f a) : ∃ b, V.ref a = .ref b ∧ f b := ⟨a, rfl, h⟩
end
section
variable {σ : L2.St} {H : Hp} {c : TT} {tb : TS} {nx bk ct : L2.St → Hp → Prop} {rt : VK}
theorem r_while (W : Nat → L2.St → Hp → Prop) (m : Nat) (h0 : W m σ H) (hs : ∀ m σ H, W m σ H → c σ H fun b H1 => if b = true then ∃ N : L2.St → Hp → Prop, (∀ σ' H', N σ' H' → ∃ m', m' < m ∧ W m' σ' H') ∧ tb ⟨N, rt, nx, N⟩ σ H1 else nx σ H1) : tWhile c tb ⟨nx, rt, bk, ct⟩ σ H :=
  ⟨W, ⟨m, h0⟩, hs⟩
theorem r_turn {W : Nat → L2.St → Hp → Prop} {m : Nat} (h : tb ⟨fun σ' H' => ∃ m', m' < m ∧ W m' σ' H', rt, nx, fun σ' H' => ∃ m', m' < m ∧ W m' σ' H'⟩ σ H) : ∃ N : L2.St → Hp → Prop, (∀ σ' H', N σ' H' → ∃ m', m' < m ∧ W m' σ' H') ∧ tb ⟨N, rt, nx, N⟩ σ H :=
  ⟨_, fun _ _ h => h, h⟩
theorem r_itD {p : Prop} [Decidable p] {A B : Prop} (hp : p) (h : A) : if decide p = true then A else B := by rw [decide_eq_true hp]; exact h
theorem r_itDF {p : Prop} [Decidable p] {A B : Prop} (hp : ¬p) (h : B) : if decide p = true then A else B := by rw [decide_eq_false hp]; exact h
theorem r_itN {p : Prop} [Decidable p] {A B : Prop} (hp : ¬p) (h : A) : if (!decide p) = true then A else B := by rw [decide_eq_false hp]; exact h
theorem r_itNF {p : Prop} [Decidable p] {A B : Prop} (hp : p) (h : B) : if (!decide p) = true then A else B := by rw [decide_eq_true hp]; exact h
theorem r_popAt {l : Addr} {xs : List V} {i : Int} {k : Nat} {y : V} {Q : VK} (h : H l = some (.lst xs)) (e : i = (k : Int)) (hk : xs[k]? = some y) (hz : k < 2 ^ 63) (q : Q y (upd H l (.lst (xs.eraseIdx k)))) : rPopAt (.ref l) [.int i] H Q := by
  subst e
  have hl : k < xs.length := (List.getElem?_eq_some_iff.mp hk).1
  exact ⟨l, xs, k, k, y, rfl, rfl, h, by omega, by omega, seqIndex_of (by omega) (by omega), hk, q⟩
end
/-! ### what stands in a heap -/
/-- all but r stands as it was -/
def Sx (r : Addr) (H H' : Hp) : Prop := ∀ b o, b ≠ r → H b = some o → H' b = some o
section
variable {H H' : Hp} {a b r : Addr} {o u : HO}
theorem upd_old (np : H a = none) (h : H b = some u) : upd H a o b = some u := (upd_ne (ne_of_none h np)).trans h
theorem upd_to (n : b ≠ a) (h : H b = some u) : upd H a o b = some u := (upd_ne n).trans h
theorem same_to (s : Same H H') (h : H b = some u) : H' b = some u := s b u h
theorem sx_to (s : Sx r H H') (n : b ≠ r) (h : H b = some u) : H' b = some u := s b u n h
theorem sx_of (s : Same H H') : Sx r H H' := fun b o _ h => s b o h
theorem same_new (np : H a = none) : Same H (upd H a o) := fun b u h => upd_old np h
theorem same_old {H0 : Hp} (s : Same H0 H) (n : H0 a = none) : Same H0 (upd H a o) := fun b u h => upd_to (ne_of_none h n) (s b u h)
theorem Sx.refl : Sx r H H := fun _ _ _ h => h
theorem Sx.trans {H1 : Hp} (s : Sx r H H1) (t : Sx r H1 H') : Sx r H H' := fun b o n h => t b o n (s b o n h)
theorem Sx.put : Sx r H (L2.upd H r o) := fun b u n h => upd_to n h
theorem Sx.new (np : H a = none) : Sx r H (L2.upd H a o) := fun b u _ h => upd_old np h
theorem Sx.old {H0 : Hp} (s : Sx r H0 H) (n : H0 a = none) : Sx r H0 (L2.upd H a o) := fun b u hb h => upd_to (ne_of_none h n) (s b u hb h)
theorem Sx.same {H1 : Hp} (s : Sx r H H1) (t : Same H1 H') : Sx r H H' := s.trans (sx_of t)
theorem Sx.free (s : Sx r H H') (hr : H' r = some u) (h : H' a = none) : H a = none := by
  cases q : H a with
  | none => rfl
  | some o =>
    by_cases e : a = r
    · subst e; rw [hr] at h; cases h
    · rw [s a o e q] at h; cases h
end
end Xk
/-- one step whose answer is known -/
local macro_rules | `(tactic| fail "one") => `(tactic| with_reducible first
  | refine Xk.r_c ?_ | refine Xk.r_op ?_ | refine Xk.r_un ?_ | refine Xk.r_I0 ?_ | refine Xk.r_U ?_ | refine Xk.r_nil ?_ | refine Xk.r_cons ?_ | refine Xk.r_lst ?_ | refine Xk.r_tup ?_
  | refine Xk.r_call ?_ | refine Xk.r_callK ?_ | refine Xk.r_cb ?_ | refine Xk.r_ckw ?_ | refine Xk.r_sl ?_ | refine Xk.r_part ?_ | refine Xk.r_nopart ?_ | refine Xk.r_exi ?_ | refine Xk.r_exb ?_ | refine Xk.r_bm ?_ | refine Xk.r_bm0 ?_
  | refine Xk.r_if ?_ | refine Xk.r_andV ?_ | refine Xk.r_orV ?_ | refine Xk.r_notV ?_ | refine Xk.r_eqI ?_ | refine Xk.r_neI ?_ | refine Xk.r_eqS ?_ | refine Xk.r_neS ?_
  | refine Xk.r_test ?_ | refine Xk.r_tB ?_ | refine Xk.r_tand ?_ | refine Xk.r_tor ?_ | refine Xk.r_tnot ?_ | refine Xk.r_yes ?_ | refine Xk.r_itT ?_ | refine Xk.r_itF ?_ | refine Xk.r_notT ?_ | refine Xk.r_notF ?_
  | refine Xk.r_seq ?_ | refine Xk.r_next ?_ | refine Xk.r_asg ?_ | refine Xk.r_ret ?_ | refine Xk.r_drop ?_ | refine Xk.r_ifS ?_ | refine Xk.r_par ?_ | refine Xk.r_ex2 ?_ | refine Xk.r_brk ?_ | refine Xk.r_cont ?_ | refine Xk.r_ipI ?_ | refine Xk.r_for ?_
  | refine Xk.r_augS ?_ | refine Xk.r_sadd0 ?_ | refine Xk.r_iEnum ?_ | refine Xk.r_iList ?_ | refine Xk.r_iTup ?_ | refine Xk.r_iRng1 ?_ | refine Xk.r_iRng2 ?_ | refine Xk.r_iRng3 ?_ | refine Xk.r_iZip ?_ | refine Xk.r_lc ?_ | refine Xk.r_lrg ?_ | refine Xk.r_rg1 ?_ | refine Xk.r_rg2 ?_ | refine Xk.r_l3 ?_ | refine Xk.r_revL ?_ | refine Xk.r_exr ?_
  | refine Xk.r_name ?_ | refine Xk.r_gcons ?_ | refine Xk.r_gnil ?_ | refine Xk.r_gsub ?_ | refine Xk.r_gslc ?_)
local macro_rules | `(tactic| fail "ne") => `(tactic| first | assumption | (apply Ne.symm; assumption) | (exact L2.ne_of_none (by assumption) (by assumption)) | (apply Ne.symm; exact L2.ne_of_none (by assumption) (by assumption)))
/-- what stands at an address -/
local macro_rules | `(tactic| fail "hp") => `(tactic| with_reducible first
  | assumption | exact L2.upd_same
  | ((refine' Xk.upd_old ?np ?_); (case np => assumption); fail "hp")
  | ((refine' Xk.same_to ?hs ?_); (case hs => assumption); fail "hp")
  | ((refine' Xk.sx_to ?hs ?hn ?_); (case hs => assumption); (case hn => fail "ne"); fail "hp")
  | ((refine' Xk.upd_to ?hn ?_); (case hn => fail "ne"); fail "hp"))
local macro_rules | `(tactic| fail "sq") => `(tactic| ((with_reducible show L2.SqL _ _ _ _); first | (with_reducible assumption) | exact Xk.sq (by fail "hp") | (with_reducible exact L2.Same.seq (by assumption) (by assumption))))
local macro_rules | `(tactic| fail "sd") => `(tactic| first | assumption | omega | decide)
local macro_rules | `(tactic| fail "at") => `(tactic| first
  | (with_reducible exact Xk.at_0) | (with_reducible exact Xk.at_1) | (with_reducible exact Xk.at_2) | (with_reducible exact Xk.at_3)
  | ((with_reducible show L2.atI (List.set (_ :: _) _ _) _ = _); exact rfl))
local macro_rules | `(tactic| fail "ix") => `(tactic| ((with_reducible show L2.ixN (List.length (_ :: _)) _ = _); exact rfl))
local macro_rules | `(tactic| fail "two") => `(tactic| first
  | ((with_reducible refine' Xk.r_var ?hv ?_); (case hv => exact rfl))
  | ((with_reducible refine' Xk.r_aug ?hv ?_); (case hv => exact rfl))
  | ((with_reducible refine' Xk.r_ixL ?hv ?hw ?_); (case hv => fail "sq"); (case hw => fail "at"))
  | ((with_reducible refine' Xk.r_setL ?hv ?hw ?_); (case hv => fail "hp"); (case hw => fail "ix"))
  | ((with_reducible refine' Xk.r_slL ?hv ?_); (case hv => fail "sq"))
  | ((with_reducible refine' Xk.r_gtup ?hv ?hw ?_); (case hv => exact Xk.sqT (by fail "hp")); (case hw => exact rfl))
  | ((with_reducible refine' ⟨Xk.ty_list (K := _) (xs := _) ?hv, ?_⟩); (case hv => fail "sq"))
  | ((with_reducible refine' Xk.r_append ?hv ?hw ?_); (case hv => fail "hp"); (case hw => fail "sd"))
  | ((with_reducible refine' Xk.r_I (C := fun _ j => 0 < j) ?hv ?_); (case hv => (first | omega | (show (0 : Int) < _; omega) | decide)))
  | ((with_reducible refine' Xk.r_len ?hv ?_); (case hv => fail "sq"))
  | ((with_reducible refine' Xk.r_listOf ?hv ?_); (case hv => fail "sq"))
  | ((with_reducible refine' Xk.r_I (C := Xk.CPowW) ?hv ?_); (case hv => exact ⟨by decide, by decide⟩))
  | (with_reducible refine ⟨Xk.szL (by with_unfolding_all rfl), ?_⟩)
  | ((with_reducible refine' ⟨_, _, rfl, ?hv, ?_⟩); (case hv => ((with_reducible show L2.SqL _ _ _ _); fail "sq")))
  | ((with_reducible refine' ⟨⟨_, ?hv⟩, ?_⟩); (case hv => fail "sq"))
  | (with_reducible refine Or.inl ⟨_, rfl, ?_⟩) | (with_reducible refine Or.inr ⟨_, rfl, ?_⟩)
  | (with_reducible refine ⟨_, _, rfl, rfl, ?_⟩) | (with_reducible refine ⟨_, rfl, ?_⟩) | (with_reducible refine ⟨_, _, rfl, ?_⟩))
local macro_rules | `(tactic| fail "g") => `(tactic| repeat (first | fail "one" | fail "two"))

set_option Elab.async false
set_option linter.all false
set_option maxRecDepth 100000
namespace Xk
open PySem PySem.Spec PyProof.Rows L2
/-! ### slices by numbers -/
theorem cut_from {xs : List V} {z : Int} {a : Nat} (h : z = (a : Int)) : cutV xs (some z) none = xs.drop a := by
  subst h
  unfold cutV
  rw [show HT.sIx xs.length 0 (some (a : Int)) = min a xs.length from HT.sIx_nat xs.length 0 a, HT.sIx_none]
  by_cases q : a ≤ xs.length
  · rw [Nat.min_eq_left q]; exact List.take_of_length_le (by rw [List.length_drop]; omega)
  · rw [Nat.min_eq_right (by omega), List.drop_of_length_le (by omega), List.drop_of_length_le (by omega)]; simp
theorem cut_to {xs : List V} {z : Int} {b : Nat} (h : z = (b : Int)) : cutV xs none (some z) = xs.take b := by
  subst h
  unfold cutV
  rw [show HT.sIx xs.length xs.length (some (b : Int)) = min b xs.length from HT.sIx_nat xs.length xs.length b, HT.sIx_none]
  show (xs.take (min b xs.length - 0)) = _
  rw [Nat.sub_zero]
  by_cases q : b ≤ xs.length
  · rw [Nat.min_eq_left q]
  · rw [Nat.min_eq_right (by omega), List.take_of_length_le (by omega), List.take_of_length_le (by omega)]
theorem cut_mid {xs : List V} {z y : Int} {a b : Nat} (h : z = (a : Int)) (g : y = (b : Int)) (hb : b ≤ xs.length) : cutV xs (some z) (some y) = (xs.drop a).take (b - a) := by
  subst h; subst g
  unfold cutV
  rw [show HT.sIx xs.length 0 (some (a : Int)) = min a xs.length from HT.sIx_nat xs.length 0 a, show HT.sIx xs.length xs.length (some (b : Int)) = min b xs.length from HT.sIx_nat xs.length xs.length b, Nat.min_eq_left hb]
  by_cases q : a ≤ xs.length
  · rw [Nat.min_eq_left q]
  · rw [Nat.min_eq_right (by omega), show b - xs.length = 0 by omega, show b - a = 0 by omega]; rfl
theorem map_drop' {α β : Type} (f : α → β) (l : List α) (n : Nat) : (l.map f).drop n = (l.drop n).map f := by simp
theorem at_map {ns : List Int} {z : Int} {j : Nat} (e : z = (j : Int)) (h : j < ns.length) : atI (ns.map V.int) z = some (.int ns[j]) :=
  at_of e (by simp [h])
theorem ix_of {n j : Nat} {z : Int} (e : z = (j : Int)) (h : j < n) : ixN n z = some j := by
  subst e; unfold ixN; rw [if_pos (by omega), if_pos (by omega)]; simp
theorem map_set' (ns : List Int) (j : Nat) (x : Int) : (ns.map V.int).set j (V.int x) = (ns.set j x).map V.int := by simp
theorem map_snoc (ns : List Int) (x : Int) : ns.map V.int ++ [V.int x] = (ns ++ [x]).map V.int := by simp
theorem size_lt {n : Nat} (h : n < 16777216) : n < sizeLine := h
theorem size_le {n : Nat} (h : n ≤ 16777216) : n ≤ sizeLine := h

/-! ### comprehensions whose turns leave what stood -/
section
variable {J : It} {n : Nat} {G : Hp → Prop} {Y : Nat → Hp → V → Hp → Prop}
theorem forI (w : Walk J n G Y) {g : TG} {tb : TS} {nx : L2.St → Hp → Prop} {rt : VK} {σ : L2.St} {H : Hp} (Pv : Nat → L2.St → Hp → Prop) (h0 : Pv 0 σ H) (hG : ∀ i σ H, i ≤ n → Pv i σ H → G H)
    (hs : ∀ i x σ H H', i < n → Pv i σ H → Y i H x H' → g x σ H' fun σ2 H2 => tb ⟨Pv (i + 1), rt, nx, Pv (i + 1)⟩ σ2 H2) (hd : ∀ σ H, Pv n σ H → nx σ H) :
    ∃ W : Nat → Nat → L2.St → Hp → Prop, (∃ m, W 0 m σ H) ∧ ∀ i m σ H, W i m σ H →
      (J.stop i H ∧ nx σ H) ∨ (J.go i H ∧ ∃ N : L2.St → Hp → Prop, (∀ σ' H', N σ' H' → ∃ m', m' < m ∧ W (i + 1) m' σ' H') ∧ ∀ x H', J.yld i H x H' → g x σ H' fun σ2 H2 => tb ⟨N, rt, nx, N⟩ σ2 H2) :=
  for_it (D := ⟨nx, rt, fun _ _ => False, fun _ _ => False⟩) w Pv h0 hG hs hd
theorem forA {xs : List V} (w : Walk J xs.length G (YAt xs)) {g : TG} {tb : TS} {nx : L2.St → Hp → Prop} {rt : VK} {σ : L2.St} {H : Hp} (Pv : Nat → L2.St → Hp → Prop) (h0 : Pv 0 σ H) (hG : ∀ i σ H, i ≤ xs.length → Pv i σ H → G H)
    (hs : ∀ i σ H (hi : i < xs.length), Pv i σ H → g xs[i] σ H fun σ2 H2 => tb ⟨Pv (i + 1), rt, nx, Pv (i + 1)⟩ σ2 H2) (hd : ∀ σ H, Pv xs.length σ H → nx σ H) :
    ∃ W : Nat → Nat → L2.St → Hp → Prop, (∃ m, W 0 m σ H) ∧ ∀ i m σ H, W i m σ H →
      (J.stop i H ∧ nx σ H) ∨ (J.go i H ∧ ∃ N : L2.St → Hp → Prop, (∀ σ' H', N σ' H' → ∃ m', m' < m ∧ W (i + 1) m' σ' H') ∧ ∀ x H', J.yld i H x H' → g x σ H' fun σ2 H2 => tb ⟨N, rt, nx, N⟩ σ2 H2) :=
  forI w Pv h0 hG (fun i x σ H H' hi p y => by
    obtain ⟨rfl, e⟩ := y
    rw [List.getElem?_eq_getElem hi] at e
    cases e
    exact hs i σ H' hi p) hd
theorem forAI {ns : List Int} (w : Walk J (ns.map V.int).length G (YAt (ns.map V.int))) {g : TG} {tb : TS} {nx : L2.St → Hp → Prop} {rt : VK} {σ : L2.St} {H : Hp} (Pv : Nat → L2.St → Hp → Prop) (h0 : Pv 0 σ H) (hG : ∀ i σ H, i ≤ (ns.map V.int).length → Pv i σ H → G H)
    (hs : ∀ i σ H (hi : i < ns.length), Pv i σ H → g (.int ns[i]) σ H fun σ2 H2 => tb ⟨Pv (i + 1), rt, nx, Pv (i + 1)⟩ σ2 H2) (hd : ∀ σ H, Pv (ns.map V.int).length σ H → nx σ H) :
    ∃ W : Nat → Nat → L2.St → Hp → Prop, (∃ m, W 0 m σ H) ∧ ∀ i m σ H, W i m σ H →
      (J.stop i H ∧ nx σ H) ∨ (J.go i H ∧ ∃ N : L2.St → Hp → Prop, (∀ σ' H', N σ' H' → ∃ m', m' < m ∧ W (i + 1) m' σ' H') ∧ ∀ x H', J.yld i H x H' → g x σ H' fun σ2 H2 => tb ⟨N, rt, nx, N⟩ σ2 H2) :=
  forI w Pv h0 hG (fun i x σ H H' hi p y => by
    obtain ⟨rfl, e⟩ := y
    have hi' : i < ns.length := by simpa using hi
    rw [List.getElem?_map, List.getElem?_eq_getElem hi'] at e
    cases e
    exact hs i σ H' hi' p) hd
theorem forF {f : Nat → V} (w : Walk J n G (YFn f)) {g : TG} {tb : TS} {nx : L2.St → Hp → Prop} {rt : VK} {σ : L2.St} {H : Hp} (Pv : Nat → L2.St → Hp → Prop) (h0 : Pv 0 σ H) (hG : ∀ i σ H, i ≤ n → Pv i σ H → G H)
    (hs : ∀ i σ H, i < n → Pv i σ H → g (f i) σ H fun σ2 H2 => tb ⟨Pv (i + 1), rt, nx, Pv (i + 1)⟩ σ2 H2) (hd : ∀ σ H, Pv n σ H → nx σ H) :
    ∃ W : Nat → Nat → L2.St → Hp → Prop, (∃ m, W 0 m σ H) ∧ ∀ i m σ H, W i m σ H →
      (J.stop i H ∧ nx σ H) ∨ (J.go i H ∧ ∃ N : L2.St → Hp → Prop, (∀ σ' H', N σ' H' → ∃ m', m' < m ∧ W (i + 1) m' σ' H') ∧ ∀ x H', J.yld i H x H' → g x σ H' fun σ2 H2 => tb ⟨N, rt, nx, N⟩ σ2 H2) :=
  forI w Pv h0 hG (fun i x σ H H' hi p y => by
    obtain ⟨rfl, rfl⟩ := y
    exact hs i σ H' hi p) hd
theorem forP {f1 f2 : Nat → Option V} (w : Walk J n G (YPair f1 f2)) {g : TG} {tb : TS} {nx : L2.St → Hp → Prop} {rt : VK} {σ : L2.St} {H : Hp} (Pv : Nat → L2.St → Hp → Prop) (h0 : Pv 0 σ H) (hG : ∀ i σ H, i ≤ n → Pv i σ H → G H)
    (hs : ∀ i σ H T x y, i < n → Pv i σ H → f1 i = some x → f2 i = some y → H T = none → g (.ref T) σ (upd H T (.tup [x, y])) fun σ2 H2 => tb ⟨Pv (i + 1), rt, nx, Pv (i + 1)⟩ σ2 H2) (hd : ∀ σ H, Pv n σ H → nx σ H) :
    ∃ W : Nat → Nat → L2.St → Hp → Prop, (∃ m, W 0 m σ H) ∧ ∀ i m σ H, W i m σ H →
      (J.stop i H ∧ nx σ H) ∨ (J.go i H ∧ ∃ N : L2.St → Hp → Prop, (∀ σ' H', N σ' H' → ∃ m', m' < m ∧ W (i + 1) m' σ' H') ∧ ∀ x H', J.yld i H x H' → g x σ H' fun σ2 H2 => tb ⟨N, rt, nx, N⟩ σ2 H2) :=
  forI w Pv h0 hG (fun i x σ H H' hi p y => by
    obtain ⟨T, x, y, rfl, nT, rfl, e1, e2⟩ := y
    exact hs i σ H T x y hi p e1 e2 nT) hd
theorem forEI {ns : List Int} (w : Walk J (ns.map V.int).length G (YPair (fun i => some (.int (i : Nat))) (fun i => (ns.map V.int)[i]?))) {g : TG} {tb : TS} {nx : L2.St → Hp → Prop} {rt : VK} {σ : L2.St} {H : Hp} (Pv : Nat → L2.St → Hp → Prop) (h0 : Pv 0 σ H) (hG : ∀ i σ H, i ≤ (ns.map V.int).length → Pv i σ H → G H)
    (hs : ∀ i σ H T (hi : i < ns.length), Pv i σ H → H T = none → g (.ref T) σ (upd H T (.tup [.int (i : Nat), .int ns[i]])) fun σ2 H2 => tb ⟨Pv (i + 1), rt, nx, Pv (i + 1)⟩ σ2 H2) (hd : ∀ σ H, Pv (ns.map V.int).length σ H → nx σ H) :
    ∃ W : Nat → Nat → L2.St → Hp → Prop, (∃ m, W 0 m σ H) ∧ ∀ i m σ H, W i m σ H →
      (J.stop i H ∧ nx σ H) ∨ (J.go i H ∧ ∃ N : L2.St → Hp → Prop, (∀ σ' H', N σ' H' → ∃ m', m' < m ∧ W (i + 1) m' σ' H') ∧ ∀ x H', J.yld i H x H' → g x σ H' fun σ2 H2 => tb ⟨N, rt, nx, N⟩ σ2 H2) :=
  forI w Pv h0 hG (fun i x σ H H' hi p y => by
    obtain ⟨T, x, y, rfl, nT, rfl, e1, e2⟩ := y
    have hi' : i < ns.length := by simpa using hi
    cases e1
    simp only [List.getElem?_map, List.getElem?_eq_getElem hi'] at e2
    cases e2
    exact hs i σ H T hi' p nT) hd
theorem lc_same (w : Walk J n G Y) {g : TG} {tt : TT} {te : TE} {vs : List Nat} {σ : L2.St} {H0 H1 : Hp} {D : Addr} {Qd : Hp → Prop} (acc : Nat → List V) (hD : H1 D = none) (h01 : Same H0 H1) (a0 : acc 0 = [])
    (hG : ∀ H, Same H0 H → G H)
    (hs : ∀ i x H H', i < n → Same H0 H ∧ H D = some (.lst (acc i)) → Y i H x H' → g x (wipe σ vs) H' fun σ2 H2 => wipe σ2 vs = wipe σ vs ∧ tt σ2 H2 fun b H3 =>
      if b = true then te σ2 H3 fun y H4 => ∃ l, H4 D = some (.lst l) ∧ l.length < sizeLine ∧ Same H0 (upd H4 D (.lst (l ++ [y]))) ∧ (upd H4 D (.lst (l ++ [y]))) D = some (.lst (acc (i + 1))) else Same H0 H3 ∧ H3 D = some (.lst (acc (i + 1))))
    (hd : ∀ H, Same H0 H → H D = some (.lst (acc n)) → Qd H) :
    ∃ W : Nat → Nat → Hp → Prop, (∃ m, W 0 m (upd H1 D (.lst []))) ∧ ∀ i m H, W i m H →
      (J.stop i H ∧ Qd H) ∨ (J.go i H ∧ ∃ Nx : Hp → Prop, (∀ H', Nx H' → ∃ m', m' < m ∧ W (i + 1) m' H') ∧ ∀ x H', J.yld i H x H' → g x (wipe σ vs) H' fun σ2 H2 => wipe σ2 vs = wipe σ vs ∧ tt σ2 H2 fun b H3 =>
        if b = true then te σ2 H3 fun y H4 => ∃ acc, H4 D = some (.lst acc) ∧ acc.length < sizeLine ∧ Nx (upd H4 D (.lst (acc ++ [y]))) else Nx H3) :=
  lc_it w (fun i H => Same H0 H ∧ H D = some (.lst (acc i))) ⟨same_old h01 (h01.free hD), by rw [a0]; exact upd_same⟩ (fun i H _ p => hG H p.1) hs (fun H p => hd H p.1 p.2)
theorem lc_sameAI {ns : List Int} (w : Walk J (ns.map V.int).length G (YAt (ns.map V.int))) {g : TG} {tt : TT} {te : TE} {vs : List Nat} {σ : L2.St} {H0 H1 : Hp} {D : Addr} {Qd : Hp → Prop} (acc : Nat → List V) (hD : H1 D = none) (h01 : Same H0 H1) (a0 : acc 0 = [])
    (hG : ∀ H, Same H0 H → G H)
    (hs : ∀ i H (hi : i < ns.length), Same H0 H ∧ H D = some (.lst (acc i)) → g (.int ns[i]) (wipe σ vs) H fun σ2 H2 => wipe σ2 vs = wipe σ vs ∧ tt σ2 H2 fun b H3 =>
      if b = true then te σ2 H3 fun y H4 => ∃ l, H4 D = some (.lst l) ∧ l.length < sizeLine ∧ Same H0 (upd H4 D (.lst (l ++ [y]))) ∧ (upd H4 D (.lst (l ++ [y]))) D = some (.lst (acc (i + 1))) else Same H0 H3 ∧ H3 D = some (.lst (acc (i + 1))))
    (hd : ∀ H, Same H0 H → H D = some (.lst (acc ns.length)) → Qd H) :
    ∃ W : Nat → Nat → Hp → Prop, (∃ m, W 0 m (upd H1 D (.lst []))) ∧ ∀ i m H, W i m H →
      (J.stop i H ∧ Qd H) ∨ (J.go i H ∧ ∃ Nx : Hp → Prop, (∀ H', Nx H' → ∃ m', m' < m ∧ W (i + 1) m' H') ∧ ∀ x H', J.yld i H x H' → g x (wipe σ vs) H' fun σ2 H2 => wipe σ2 vs = wipe σ vs ∧ tt σ2 H2 fun b H3 =>
        if b = true then te σ2 H3 fun y H4 => ∃ acc, H4 D = some (.lst acc) ∧ acc.length < sizeLine ∧ Nx (upd H4 D (.lst (acc ++ [y]))) else Nx H3) :=
  lc_same w acc hD h01 a0 hG (fun i x H H' hi p y => by
    obtain ⟨rfl, e⟩ := y
    have hi' : i < ns.length := by simpa using hi
    rw [List.getElem?_map, List.getElem?_eq_getElem hi'] at e
    cases e
    exact hs i H' hi' p) (fun H p q => hd H p (by simpa using q))
theorem lc_sameEI {ns : List Int} (w : Walk J (ns.map V.int).length G (YPair (fun i => some (.int (i : Nat))) (fun i => (ns.map V.int)[i]?))) {g : TG} {tt : TT} {te : TE} {vs : List Nat} {σ : L2.St} {H0 H1 : Hp} {D : Addr} {Qd : Hp → Prop} (acc : Nat → List V) (hD : H1 D = none) (h01 : Same H0 H1) (a0 : acc 0 = [])
    (hG : ∀ H, Same H0 H → G H)
    (hs : ∀ i H T (hi : i < ns.length), Same H0 H ∧ H D = some (.lst (acc i)) → H T = none → g (.ref T) (wipe σ vs) (upd H T (.tup [.int (i : Nat), .int ns[i]])) fun σ2 H2 => wipe σ2 vs = wipe σ vs ∧ tt σ2 H2 fun b H3 =>
      if b = true then te σ2 H3 fun y H4 => ∃ l, H4 D = some (.lst l) ∧ l.length < sizeLine ∧ Same H0 (upd H4 D (.lst (l ++ [y]))) ∧ (upd H4 D (.lst (l ++ [y]))) D = some (.lst (acc (i + 1))) else Same H0 H3 ∧ H3 D = some (.lst (acc (i + 1))))
    (hd : ∀ H, Same H0 H → H D = some (.lst (acc ns.length)) → Qd H) :
    ∃ W : Nat → Nat → Hp → Prop, (∃ m, W 0 m (upd H1 D (.lst []))) ∧ ∀ i m H, W i m H →
      (J.stop i H ∧ Qd H) ∨ (J.go i H ∧ ∃ Nx : Hp → Prop, (∀ H', Nx H' → ∃ m', m' < m ∧ W (i + 1) m' H') ∧ ∀ x H', J.yld i H x H' → g x (wipe σ vs) H' fun σ2 H2 => wipe σ2 vs = wipe σ vs ∧ tt σ2 H2 fun b H3 =>
        if b = true then te σ2 H3 fun y H4 => ∃ acc, H4 D = some (.lst acc) ∧ acc.length < sizeLine ∧ Nx (upd H4 D (.lst (acc ++ [y]))) else Nx H3) :=
  lc_same w acc hD h01 a0 hG (fun i x H H' hi p y => by
    obtain ⟨T, x, y, rfl, nT, rfl, e1, e2⟩ := y
    have hi' : i < ns.length := by simpa using hi
    cases e1
    simp only [List.getElem?_map, List.getElem?_eq_getElem hi'] at e2
    cases e2
    exact hs i H T hi' p nT) (fun H p q => hd H p (by simpa using q))
theorem lc_sameF {n : Nat} {f : Nat → V} (w : Walk J n G (YFn f)) {g : TG} {tt : TT} {te : TE} {vs : List Nat} {σ : L2.St} {H0 H1 : Hp} {D : Addr} {Qd : Hp → Prop} (acc : Nat → List V) (hD : H1 D = none) (h01 : Same H0 H1) (a0 : acc 0 = [])
    (hG : ∀ H, Same H0 H → G H)
    (hs : ∀ i H, i < n → Same H0 H ∧ H D = some (.lst (acc i)) → g (f i) (wipe σ vs) H fun σ2 H2 => wipe σ2 vs = wipe σ vs ∧ tt σ2 H2 fun b H3 =>
      if b = true then te σ2 H3 fun y H4 => ∃ l, H4 D = some (.lst l) ∧ l.length < sizeLine ∧ Same H0 (upd H4 D (.lst (l ++ [y]))) ∧ (upd H4 D (.lst (l ++ [y]))) D = some (.lst (acc (i + 1))) else Same H0 H3 ∧ H3 D = some (.lst (acc (i + 1))))
    (hd : ∀ H, Same H0 H → H D = some (.lst (acc n)) → Qd H) :
    ∃ W : Nat → Nat → Hp → Prop, (∃ m, W 0 m (upd H1 D (.lst []))) ∧ ∀ i m H, W i m H →
      (J.stop i H ∧ Qd H) ∨ (J.go i H ∧ ∃ Nx : Hp → Prop, (∀ H', Nx H' → ∃ m', m' < m ∧ W (i + 1) m' H') ∧ ∀ x H', J.yld i H x H' → g x (wipe σ vs) H' fun σ2 H2 => wipe σ2 vs = wipe σ vs ∧ tt σ2 H2 fun b H3 =>
        if b = true then te σ2 H3 fun y H4 => ∃ acc, H4 D = some (.lst acc) ∧ acc.length < sizeLine ∧ Nx (upd H4 D (.lst (acc ++ [y]))) else Nx H3) :=
  lc_same w acc hD h01 a0 hG (fun i x H H' hi p y => by
    obtain ⟨rfl, rfl⟩ := y
    exact hs i H' hi p) hd
theorem lc_add {H0 H H4 : Hp} {D : Addr} {a a' : List V} {y : V} (p : Same H0 H ∧ H D = some (.lst a)) (s : Same H H4) (hD : H0 D = none) (e : a' = a ++ [y]) (hz : a.length < sizeLine) :
    ∃ l, H4 D = some (.lst l) ∧ l.length < sizeLine ∧ Same H0 (upd H4 D (.lst (l ++ [y]))) ∧ (upd H4 D (.lst (l ++ [y]))) D = some (.lst a') :=
  ⟨a, s _ _ p.2, hz, same_old (p.1.trans s) hD, by rw [e]; exact upd_same⟩
theorem lc_skip {H0 H H4 : Hp} {D : Addr} {a a' : List V} (p : Same H0 H ∧ H D = some (.lst a)) (s : Same H H4) (e : a' = a) : Same H0 H4 ∧ H4 D = some (.lst a') := ⟨p.1.trans s, by rw [e]; exact s _ _ p.2⟩
theorem take_one {α : Type} {l : List α} {i : Nat} (hi : i < l.length) : l.take (i + 1) = l.take i ++ [l[i]] := by rw [List.take_add_one, List.getElem?_eq_getElem hi]; rfl
theorem acc_filtT {l : List Int} {f : Int → Bool} {i : Nat} (hi : i < l.length) (h : f l[i] = true) : ((l.take (i + 1)).filter f).map V.int = ((l.take i).filter f).map V.int ++ [.int l[i]] := by
  rw [take_one hi, List.filter_append, List.map_append]; simp [h]
theorem acc_filtF {l : List Int} {f : Int → Bool} {i : Nat} (hi : i < l.length) (h : f l[i] = false) : ((l.take (i + 1)).filter f).map V.int = ((l.take i).filter f).map V.int := by
  rw [take_one hi, List.filter_append, List.map_append]; simp [h]
theorem filt_len {l : List Int} {f : Int → Bool} {i : Nat} (h : l.length ≤ 1000000) : (((l.take i).filter f).map V.int).length < sizeLine := by
  rw [List.length_map]
  refine Nat.lt_of_le_of_lt (Nat.le_trans (List.length_filter_le _ _) (List.length_take_le' _ _)) (size_lt (by omega))
end
theorem erase_map {α β : Type} (f : α → β) : ∀ (l : List α) (j : Nat), (l.map f).eraseIdx j = (l.eraseIdx j).map f
  | [], _ => rfl
  | x :: r, 0 => rfl
  | x :: r, j + 1 => congrArg (f x :: ·) (erase_map f r j)
theorem erase_perm {α : Type} : ∀ (l : List α) (j : Nat) (h : j < l.length), (l[j] :: l.eraseIdx j).Perm l
  | x :: r, 0, _ => List.Perm.refl _
  | x :: r, j + 1, h => (List.Perm.swap x (r[j]'(Nat.lt_of_succ_lt_succ h)) (r.eraseIdx j)).trans ((erase_perm r j (Nat.lt_of_succ_lt_succ h)).cons x)
end Xk

set_option Elab.async false
set_option linter.all false
set_option maxRecDepth 100000
namespace Xk
open PySem PySem.Spec PyProof.Rows L2
/-! ### data -/
abbrev dI (ns : List Int) : PyData := .list (ns.map PyData.int)
section
variable {K : PySem.W.Frag} {H H' : Hp}
theorem dp_ints : ∀ ns : List Int, DpAll K H (ns.map V.int) (ns.map PyData.int)
  | [] => .nil
  | i :: r => .cons (.int i) (dp_ints r)
theorem dp_lst {a : Addr} {ns : List Int} (h : SqL K H a (ns.map V.int)) : Dp K H (.ref a) (dI ns) := .lst h (dp_ints ns)
theorem eqv_ints : ∀ ns ms : List Int, PyData.eqvAll (ns.map PyData.int) (ms.map PyData.int) = decide (ns = ms)
  | [], [] => rfl
  | [], _ :: _ => rfl
  | _ :: _, [] => rfl
  | i :: r, j :: t => by
    show ((i == j) && PyData.eqvAll (r.map PyData.int) (t.map PyData.int)) = _
    rw [eqv_ints r t]
    by_cases e : i = j
    · subst e; by_cases f : r = t
      · subst f; simp
      · simp [f]
    · simp [e]
theorem eqv_dI (ns ms : List Int) : PyData.eqv (dI ns) (dI ms) = decide (ns = ms) := eqv_ints ns ms
theorem lay_ints : ∀ ns : List Int, PyData.canLayAll0 (ns.map PyData.int) = true
  | [] => rfl
  | _ :: r => lay_ints r
theorem depth_ints : ∀ ns : List Int, PyData.depthAll (ns.map PyData.int) = 0
  | [] => rfl
  | i :: r => by show max 0 (PyData.depthAll (r.map PyData.int)) = 0; rw [depth_ints r]; rfl
theorem shaped_dI (ns : List Int) : SeqAt.shaped (dI ns) = true := by
  unfold SeqAt.shaped
  rw [Bool.and_eq_true]
  refine ⟨lay_ints ns, ?_⟩
  show decide (PyData.depthAll (ns.map PyData.int) + 1 ≤ 64) = true
  rw [depth_ints]; rfl
/-- == of two lists of ints -/
theorem r_eqL {a b : Addr} {ns ms : List Int} {Q : VK} (h : SqL K H a (ns.map V.int)) (g : SqL K H b (ms.map V.int)) (q : Q (.bl (decide (ns = ms))) H) : rEqD K (.ref a) (.ref b) H Q :=
  ⟨_, _, dp_lst h, dp_lst g, shaped_dI ns, shaped_dI ms, by rw [eqv_dI]; exact q⟩
theorem r_neL {a b : Addr} {ns ms : List Int} {Q : VK} (h : SqL K H a (ns.map V.int)) (g : SqL K H b (ms.map V.int)) (q : Q (.bl (!decide (ns = ms))) H) : rNeD K (.ref a) (.ref b) H Q :=
  ⟨_, _, dp_lst h, dp_lst g, shaped_dI ns, shaped_dI ms, by rw [eqv_dI]; exact q⟩
end

/-! ### how long a repr may be -/
def Sh (b : Nat) (d : PyData) : Prop := d.showable = true ∧ d.shown.length ≤ b
theorem Sh.mono {b c : Nat} {d : PyData} (h : Sh b d) (e : b ≤ c) : Sh c d := ⟨h.1, Nat.le_trans h.2 e⟩
theorem len_app (a b : Str) : (a ++ b).length = a.length + b.length := by
  show (a.cps ++ b.cps).size = _
  exact Array.size_append
theorem from_le : ∀ (ts : List Str) (k b : Nat) (acc : Str), (∀ t ∈ ts, t.length ≤ b) → (textFrom k acc ts).length ≤ acc.length + ts.length * (b + 2)
  | [], _, _, _, _ => by simp [textFrom]
  | t :: r, k, b, acc, h => by
    have ht := h t List.mem_cons_self
    have ih := fun acc' => from_le r (k + 1) b acc' fun t ht => h t (List.mem_cons_of_mem _ ht)
    unfold textFrom
    refine Nat.le_trans (ih _) ?_
    rw [List.length_cons, Nat.succ_mul]
    have e2 : (Str.ofString ", ").length = 2 := rfl
    have e0 : (Str.ofString "").length = 0 := rfl
    generalize r.length * (b + 2) = R
    split <;> simp only [len_app] <;> omega
theorem all_sh {b : Nat} : ∀ {ds : List PyData}, (∀ d ∈ ds, Sh b d) → PyData.showableAll ds = true ∧ ∀ t ∈ PyData.shownAll ds, t.length ≤ b
  | [], _ => ⟨rfl, fun t h => nomatch h⟩
  | d :: r, h => by
    have h1 := h d List.mem_cons_self
    have ih := all_sh fun e he => h e (List.mem_cons_of_mem _ he)
    refine ⟨?_, fun t ht => ?_⟩
    · show (d.showable && PyData.showableAll r) = true
      rw [h1.1, ih.1]; rfl
    · rcases List.mem_cons.mp (show t ∈ d.shown :: PyData.shownAll r from ht) with e | e
      · subst e; exact h1.2
      · exact ih.2 t e
theorem shown_len : ∀ ds : List PyData, (PyData.shownAll ds).length = ds.length
  | [] => rfl
  | _ :: r => congrArg (· + 1) (shown_len r)
theorem Sh.list {b : Nat} {ds : List PyData} (h : ∀ d ∈ ds, Sh b d) : Sh (ds.length * (b + 2) + 2) (.list ds) := by
  obtain ⟨h1, h2⟩ := all_sh h
  refine ⟨h1, ?_⟩
  show (listText (PyData.shownAll ds)).length ≤ _
  unfold listText
  rw [len_app]
  have := from_le (PyData.shownAll ds) 0 b "[" h2
  rw [shown_len] at this
  have e1 : ("[" : Str).length = 1 := rfl
  have e2 : ("]" : Str).length = 1 := rfl
  omega
theorem piled_le : ∀ (ts : List Str) (b : Nat), (∀ t ∈ ts, t.length ≤ b) → piled ts ≤ ts.length * (b + 2)
  | [], _, _ => by simp [piled]
  | t :: r, b, h => by
    have h1 := h t List.mem_cons_self
    have ih := piled_le r b fun e he => h e (List.mem_cons_of_mem _ he)
    have e : piled (t :: r) = t.length + 2 + piled r := by simp [piled]
    rw [e, List.length_cons, Nat.succ_mul]
    omega
theorem Sh.tuple {b : Nat} {ds : List PyData} (h : ∀ d ∈ ds, Sh b d) : Sh (ds.length * (b + 2) + 3) (.tuple ds) := by
  obtain ⟨h1, h2⟩ := all_sh h
  refine ⟨h1, ?_⟩
  show (tupleText (PyData.shownAll ds)).length ≤ _
  unfold tupleText
  rw [len_app, len_app]
  have hp := piled_le (PyData.shownAll ds) b h2
  rw [shown_len] at hp
  have e1 : ("(" : Str).length = 1 := rfl
  have e2 : (Str.ofString ",)").length = 2 := rfl
  have e3 : (Str.ofString ")").length = 1 := rfl
  by_cases q : PyData.shownAll ds = []
  · rw [q]
    have e4 : (Str.join ", " []).length = 0 := rfl
    split <;> omega
  · have := join_length_add _ q
    split <;> omega
theorem Sh.bool {b : Bool} : Sh 5 (.bool b) := ⟨rfl, by cases b <;> decide⟩
theorem Sh.none : Sh 4 .none := ⟨rfl, by decide⟩
theorem Sh.int {i : Int} {k : Nat} (hk : 0 < k) (h : i.natAbs < 10 ^ k) (h9 : k ≤ 500) : Sh (k + 1) (.int i) := by
  refine ⟨?_, ?_⟩
  · show decide (i.natAbs.log2 < 1920) = true
    rw [decide_eq_true_eq]
    by_cases z : i.natAbs = 0
    · rw [z]; decide
    · refine (Nat.log2_lt z).mpr (Nat.lt_trans h (Nat.lt_of_le_of_lt (Nat.pow_le_pow_right (by decide) h9) (by decide +kernel)))
  · show (Str.ofString (toString i)).length ≤ k + 1
    match i, h with
    | .ofNat n, h => exact Nat.le_succ_of_le (PyProof.Rows.toString_length_le (v := (n : Int)) (by omega) hk (by
        have h' : n < 10 ^ k := h
        have : ((n : Nat) : Int) < ((10 ^ k : Nat) : Int) := by omega
        simpa using this))
    | .negSucc n, h =>
      have h' : n + 1 < 10 ^ k := h
      have := PyProof.Rows.toString_length_le (v := ((n + 1 : Nat) : Int)) (by omega) hk (by
        have : ((n + 1 : Nat) : Int) < ((10 ^ k : Nat) : Int) := by omega
        simpa using this)
      rw [PyProof.Rows.ofString_length, String.length_toList] at this
      rw [PyProof.Rows.ofString_length, String.length_toList]
      show ("-" ++ toString (n + 1)).length ≤ k + 1
      rw [String.length_append]
      have e : ("-" : String).length = 1 := rfl
      have e2 : (toString ((n + 1 : Nat) : Int)) = toString (n + 1) := rfl
      rw [e2] at this
      omega
theorem Sh.ints {ns : List Int} {k : Nat} (hk : 0 < k) (h9 : k ≤ 500) (h : ∀ i ∈ ns, i.natAbs < 10 ^ k) : Sh (ns.length * (k + 3) + 2) (dI ns) := by
  have := Sh.list (b := k + 1) (ds := ns.map PyData.int) fun d hd => by
    obtain ⟨i, hi, rfl⟩ := List.mem_map.mp hd
    exact Sh.int hk (h i hi) h9
  rw [List.length_map] at this
  exact this
/-- repr(a list), in a reading -/
theorem r_repr {K : PySem.W.Frag} {H : Hp} {a : Addr} {d : PyData} {Q : VK} (h : Dp K H (.ref a) d) (hd : d.depth ≤ 60) {b : Nat} (s : Sh b d) (hb : b ≤ 16777216) (q : Q (.str d.shown) H) : rReprD K [.ref a] H Q :=
  ⟨a, d, rfl, h, s.1, hd, Nat.le_trans s.2 hb, q⟩
theorem depth_dI (ns : List Int) : (dI ns).depth ≤ 60 := by show PyData.depthAll (ns.map PyData.int) + 1 ≤ 60; rw [depth_ints]; decide
end Xk

set_option Elab.async false
set_option linter.all false
set_option maxRecDepth 100000
namespace Xk
open PySem PySem.Spec PyProof.Rows L2
/-! ### isinstance, is None, truth values compared -/
section
variable {X : Cx} (K : PySem.W.Frag)
theorem ix_seqK (hK : X.K = K := by rfl) : IxR X (rIx K) := hK ▸ ix_seq
theorem pg_unlK {es : List Expr} {g : TGs} {k : Nat} {pos : Pos} (n : Nat) (hc : X.calm = true) (h : PGs X es g) (hn : (assignEach es X.env).length = n := by rfl) (hst : (assignEach es X.env).findIdx? (·.1) = none := by rfl) (hK : X.K = K := by rfl) : PG X (.Tuple es k pos) (gUnl K n g) := hK ▸ pg_unl hc h hn hst
/-- x in xs, data of few layers -/
def rInE (K : PySem.W.Frag) : R2 := fun x y H Q => ∃ d ds, Dp K H x d ∧ Dp K H y (.list ds) ∧ SeqAt.shaped d = true ∧ SeqAt.shaped (.list ds) = true ∧ d.depth ≤ 60 ∧ Q (.bl (ds.any fun z => PyData.eqv z d)) H
theorem op_inE (hu : X.A.units + 64 < cLine) (hK : X.K = K := by rfl) : OpR X (compareOp .In) (rInE K) := by
  subst hK
  intro pins s σ H x y v u Q I rx ry h
  obtain ⟨d, ds, hd, he, sd, se, dd, q⟩ := h
  obtain ⟨as, r1⟩ := Dp.reads I d x v hd rx
  obtain ⟨bs, r2⟩ := Dp.reads I (.list ds) y u he ry
  refine SeqAt.in_list_reads r2 r1 (SeqAt.canLay_of_shaped se) (SeqAt.canLay_of_shaped sd) ?_ ⟨.bl _, H, I, rfl, q⟩
  have := Nat.min_le_right (PyData.depthAll ds) d.depth
  omega
theorem isiK (hK : X.K = K := by rfl) : CallR X (.builtin "isinstance") (rIsi K) := hK ▸ call_isi
end
section
variable {K : PySem.W.Frag} {H H' : Hp} {Q : VK} {x : V} {T t : String} {r : Bool}
theorem r_isi (ty : TyX K H x (.type t)) (e : kitB t T = some r) (q : Q (.bl r) H) : rIsi K [x, .ty T] H Q := ⟨x, .ty T, .type t, .type T, r, rfl, .ty T, ty, kit_ty e, q⟩
theorem tyx_list {a : Addr} {xs : List V} (h : SqL K H a xs) : TyX K H (.ref a) (.type "list") := by
  rcases h with (h | ⟨o, h⟩) | ⟨o, its, n, h, c, _⟩
  · exact .base (.lst h)
  · exact .base (.frz h)
  · exact .kList h c
theorem tyx_tup {a : Addr} {xs : List V} (h : SqT K H a xs) : TyX K H (.ref a) (.type "tuple") := by
  rcases h with (h | ⟨o, h⟩) | ⟨o, its, n, h, c, _⟩
  · exact .base (.tup h)
  · exact .fTuple h
  · exact .kTuple h c
theorem r_isN {A : Prop} (q : A) : V.non = V.non ∧ A := ⟨rfl, q⟩
theorem r_neB {a b : Bool} (q : Q (.bl (!decide (a = b))) H) : rNe (.bl a) (.bl b) H Q := by
  refine ⟨rfl, ?_⟩
  have e : decide (V.bl a = V.bl b) = decide (a = b) := by
    by_cases h : a = b
    · subst h; simp
    · rw [decide_eq_false h, decide_eq_false]; intro z; cases z; exact h rfl
  rw [e]; exact q
theorem r_eqB {a b : Bool} (q : Q (.bl (decide (a = b))) H) : rEq (.bl a) (.bl b) H Q := by
  refine ⟨rfl, ?_⟩
  have e : decide (V.bl a = V.bl b) = decide (a = b) := by
    by_cases h : a = b
    · subst h; simp
    · rw [decide_eq_false h, decide_eq_false]; intro z; cases z; exact h rfl
  rw [e]; exact q
theorem r_iRev {tA : TA} {σ : L2.St} {R : L2.It → Hp → Prop} (h : tA σ H fun vs H1 => ∃ a xs, vs = [.ref a] ∧ SqL K H1 a xs ∧ R (Itv K a xs.length) H1) : iRev K tA σ H R := h
theorem r_insert {l : Addr} {xs : List V} {i : Int} {y : V} (h : H l = some (.lst xs)) (hz : xs.length < sizeLine) (h0 : 0 ≤ i) (h1 : i < 2 ^ 63) (q : Q .non (upd H l (.lst (xs.take i.toNat ++ [y] ++ xs.drop i.toNat)))) :
    ∃ (l' : Addr) (xs : List V) (i' : Int) (y' : V), V.ref l = .ref l' ∧ [V.int i, y] = [.int i', y'] ∧ H l' = some (.lst xs) ∧ xs.length < sizeLine ∧ 0 ≤ i' ∧ i' < 2 ^ 63 ∧ Q .non (upd H l' (.lst (xs.take i'.toNat ++ [y'] ++ xs.drop i'.toNat))) := ⟨l, xs, i, y, rfl, rfl, h, hz, h0, h1, q⟩
theorem r_all {a : Addr} {bs : List Bool} (h : SqL K H a (bs.map V.bl)) (q : Q (.bl (bs.all id)) H) : rAll K [.ref a] H Q := ⟨a, bs, rfl, h, q⟩
theorem inv_ints (x : Int) (l : List Int) : inV (.int x) (l.map V.int) = decide (x ∈ l) := by
  unfold inV
  rw [List.any_map]
  by_cases hm : x ∈ l
  · rw [decide_eq_true hm, List.any_eq_true]
    exact ⟨_, hm, by show (_ == _) = true; simp⟩
  · rw [decide_eq_false hm, List.any_eq_false]
    intro y hy
    show ¬ (y == x) = true
    intro e
    exact hm (eq_of_beq e ▸ hy)
theorem r_gunl {gs : TGs} {σ : L2.St} {Qs : L2.St → Hp → Prop} {p : Addr} {xs : List V} {n : Nat} (h : SqL K H p xs) (hl : xs.length = n) (q : gs xs σ H Qs) : gUnl K n gs (.ref p) σ H Qs := ⟨p, xs, rfl, h, hl, q⟩
theorem r_lenT {p : Addr} {xs : List V} (h : SqT K H p xs) (q : Q (.int xs.length) H) : Xk.rLen K [.ref p] H Q := ⟨p, xs, rfl, .inr h, q⟩
theorem pow5 {i : Int} {n : Nat} {j : Int} (h : i.natAbs < 2 ^ n) (h0 : 0 ≤ j) (hj : j ≤ 5) (hn : n ≤ 20000000) : CPowW i j := by
  refine ⟨h0, ?_⟩
  have h1 := bits_le h
  have : (Builtin.Int.intBits i : Int) * j ≤ 20000000 * 5 := by
    refine Int.mul_le_mul ?_ hj h0 (by omega)
    omega
  refine Int.le_trans this (by decide)
theorem r_par3 {tA : TA} {σ : L2.St} {nx bk ct : L2.St → Hp → Prop} {rt : VK} {i j l : Nat} (h : tA σ H fun vs H1 => ∃ x y z, vs = [x, y, z] ∧ nx (((σ.set i (some x)).set j (some y)).set l (some z)) H1) : tPar3 i j l tA ⟨nx, rt, bk, ct⟩ σ H := h
theorem r_ex3 {f : V → V → V → Prop} {x y z : V} (h : f x y z) : ∃ u v w, [x, y, z] = [u, v, w] ∧ f u v w := ⟨x, y, z, rfl, h⟩
theorem r_ixQL {p : Addr} {xs : List V} {i : Int} {v : V} (h : SqL K H p xs) (ha : atI xs i = some v) (q : Q v H) : rIx K (.ref p) (.int i) H Q := .inl ⟨p, xs, i, v, rfl, rfl, h, ha, q⟩
theorem r_ixQT {p : Addr} {xs : List V} {i : Int} {v : V} (h : SqT K H p xs) (ha : atI xs i = some v) (q : Q v H) : rIx K (.ref p) (.int i) H Q := .inr (.inl ⟨p, xs, i, v, rfl, rfl, h, ha, q⟩)
theorem r_reverse {p : Addr} {xs : List V} (h : H p = some (.lst xs)) (q : Q .non (upd H p (.lst xs.reverse))) : rReverse (.ref p) [] H Q := ⟨p, xs, rfl, rfl, h, q⟩
theorem r_extend {p b : Addr} {xs zs : List V} (h : H p = some (.lst xs)) (g : H b = some (.lst zs)) (hz : xs.length + zs.length ≤ sizeLine) (q : Q .non (upd H p (.lst (xs ++ zs)))) : rExtend (.ref p) [.ref b] H Q := ⟨p, b, xs, zs, rfl, rfl, h, g, hz, q⟩
theorem r_cat {p b : Addr} {xs ys : List V} (h : H p = some (.lst xs)) (g : H b = some (.lst ys)) (hz : xs.length + ys.length ≤ sizeLine) (q : ∀ n, H n = none → Q (.ref n) (upd H n (.lst (xs ++ ys)))) : rCat (.ref p) (.ref b) H Q := ⟨p, b, xs, ys, rfl, rfl, h, g, hz, q⟩
theorem cut_any {xs : List V} {z y : Int} {a b : Nat} (h : z = (a : Int)) (g : y = (b : Int)) : cutV xs (some z) (some y) = (xs.drop a).take (b - a) := by
  subst h; subst g
  unfold cutV
  rw [show HT.sIx xs.length 0 (some (a : Int)) = min a xs.length from HT.sIx_nat xs.length 0 a, show HT.sIx xs.length xs.length (some (b : Int)) = min b xs.length from HT.sIx_nat xs.length xs.length b]
  by_cases q : a ≤ xs.length
  · rw [Nat.min_eq_left q]
    by_cases q2 : b ≤ xs.length
    · rw [Nat.min_eq_left q2]
    · rw [Nat.min_eq_right (by omega), List.take_of_length_le (by rw [List.length_drop]; omega), List.take_of_length_le (by rw [List.length_drop]; omega)]
  · rw [Nat.min_eq_right (show xs.length ≤ a by omega), List.drop_of_length_le (Nat.le_refl _), List.drop_of_length_le (show xs.length ≤ a by omega)]; simp
/-! ### data kept -/
theorem sqT_same {a : Addr} {xs : List V} (s : Same H H') (h : SqT K H a xs) : SqT K H' a xs := by
  rcases h with (h | ⟨o, h⟩) | h
  · exact .inl (.inl (s _ _ h))
  · exact .inl (.inr ⟨o, s _ _ h⟩)
  · exact .inr h
mutual
theorem dp_same (s : Same H H') : ∀ (d : PyData) (v : V), Dp K H v d → Dp K H' v d
  | .none, _, h => by cases h; exact .non
  | .bool b, _, h => by cases h; exact .bl b
  | .int i, _, h => by cases h; exact .int i
  | .str y, _, h => by cases h; exact .str y
  | .list ds, _, h => by
    cases h with
    | lst e a => exact .lst (s.seq e) (dp_sameAll s ds _ a)
  | .tuple ds, _, h => by
    cases h with
    | tup e a => exact .tup (sqT_same s e) (dp_sameAll s ds _ a)
  | .dict _, _, h => by cases h
theorem dp_sameAll (s : Same H H') : ∀ (ds : List PyData) (vs : List V), DpAll K H vs ds → DpAll K H' vs ds
  | [], _, h => by cases h; exact .nil
  | d :: ds, _, h => by
    cases h with
    | cons a b => exact .cons (dp_same s d _ a) (dp_sameAll s ds _ b)
end
theorem dpall_len : ∀ {vs : List V} {ds : List PyData}, DpAll K H vs ds → vs.length = ds.length
  | _, _, .nil => rfl
  | _, _, .cons _ b => congrArg (· + 1) (dpall_len b)
theorem dpall_at : ∀ {vs : List V} {ds : List PyData} (h : DpAll K H vs ds) (i : Nat) (hi : i < ds.length), ∃ v, vs[i]? = some v ∧ Dp K H v ds[i]
  | _, _, .cons a b, 0, _ => ⟨_, rfl, a⟩
  | _, _, .cons a b, i + 1, hi => dpall_at b i (Nat.lt_of_succ_lt_succ hi)
theorem depth_at : ∀ {ds : List PyData} {i : Nat} (hi : i < ds.length), ds[i].depth ≤ PyData.depthAll ds
  | d :: ds, 0, _ => Nat.le_max_left _ _
  | d :: ds, i + 1, hi => Nat.le_trans (depth_at (ds := ds) (Nat.lt_of_succ_lt_succ hi)) (Nat.le_max_right _ _)
end
end Xk

set_option Elab.async false
set_option linter.all false
set_option maxRecDepth 100000
namespace Xk
open PySem PySem.Spec PyProof.Rows L2 GenW
/-! ### for in a generator -/
section
variable {M : Model} {A : Around} {R : GenEnd} {Y : Protocol} {n : Nat} {s₀ : Shared} {c : Code} {fs : List Frame} {s : Shared} {env : Env}
  {K : Flow → Sem PySem.Fin} {H : Value → Sem PySem.Fin} {gd : Bool → Bool} {lv : List Value → List Value}
theorem seg_For {target iter : Expr} {body orelse : List Stmt} {pos : Pos} (hs : ∀ x, foldedSetIterable iter env x = pure x)
    (h : wpAny M (A.over c fs) (eval iter env) (fun x s₁ => wpAny M (A.over c fs) (pyIter x) (fun it s₂ =>
      ∀ p, Seg M A R Y n s₀ (.forLoop target it body orelse env) (M.den (.forLoop target it body orelse env))
      (.ret (fun r => ((match r with | .ok f => (.pure f : Sem Flow) | .error e => .raise e).onRaise (cameBack env)).wrap K H gd lv) none (gd false) (lv []) c p [] :: fs) s₂)
      (fun x s' => Seg M A R Y n s₀ c (H x) fs s') s₁) (fun x s' => Seg M A R Y n s₀ c (H x) fs s') s) :
    Seg M A R Y n s₀ c ((exec (.For target iter body orelse pos) env).wrap K H gd lv) fs s := by
  rw [exec_For]
  simp only [hs]
  rw [Sem.bind_eq_wrap', Sem.wrap_wrap]
  refine seg_wrap (wpAny_standAt ?_)
  rw [Sem.bind_eq_wrap', Sem.wrap_wrap]
  refine seg_wrap (wpAny_mono h (fun x s₁ h₁ => ?_) fun _ _ z => z)
  show Seg M A R Y n s₀ c (Sem.wrap K H gd lv (standAt iter.pos >>= fun _ => holding [x] (pyIter x) >>= fun it => runOwn (.forLoop target it body orelse env) env)) fs s₁
  rw [Sem.bind_eq_wrap', Sem.wrap_wrap]
  refine seg_wrap (wpAny_standAt ?_)
  rw [Sem.bind_eq_wrap', Sem.wrap_wrap]
  refine seg_wrap (wpAny_holding (wpAny_mono h₁ (fun it s₂ h₂ => ?_) fun _ _ z => z))
  exact seg_call h₂
end
section
variable {prog : Program} {w : World} {A : Around} {R : GenEnd} {Y : Protocol} {n : Nat} {s₀ : Shared} {fs : List Frame} {s : Shared} {env : Env}
/-- one turn: a next item, or the end -/
theorem seg_forLoop {target : Expr} {it : Value} {body : List Stmt}
    (h : wpAny (model prog w) (A.over (.forLoop target it body [] env) fs) (pyNext it) (fun r s' => match r with
      | none => Seg (model prog w) A R Y n s₀ (.forLoop target it body [] env) (.pure (.again (.block [] env))) fs s'
      | some v => wpAny (model prog w) (A.over (.forLoop target it body [] env) fs) (letOwnedTupleGo target it v) (fun _ s1 =>
          wpAny (model prog w) (A.over (.forLoop target it body [] env) fs) (assign target env v) (fun _ s2 =>
            Seg (model prog w) A R Y n s₀ (.forLoop target it body [] env) ((execs body env).wrap (fun f => match f with
              | .next | .cont => .pure (.again (.forLoop target it body [] env))
              | .brk => .pure (.done .next)
              | .ret v => .pure (.done (.ret v))) (fun e => (do noteFrame e env; theTreesLotGoes e : Sem Unit).wrap (fun _ => .raise e) .raise id id) id id) fs s2) (fun _ _ => False) s1) (fun _ _ => False) s')
      (fun _ _ => False) s) :
    Seg (model prog w) A R Y n s₀ (.forLoop target it body [] env) ((model prog w).den (.forLoop target it body [] env)) fs s := by
  show Seg _ A R Y n s₀ _ ((forTurn target it body [] env).onRaise (fun x => do noteFrame x env; theTreesLotGoes x)) fs s
  unfold forTurn
  rw [Sem.onRaise_eq_wrap, Sem.bind_eq_wrap', Sem.wrap_wrap]
  refine seg_wrap (wpAny_standAt ?_)
  rw [Sem.bind_eq_wrap', Sem.wrap_wrap]
  refine seg_wrap (wpAny_onRaise (wpAny_mono h (fun r s' hr => ?_) fun _ _ z => z.elim))
  cases r with
  | none => exact hr
  | some v =>
    show Seg _ A R Y n s₀ _ (Sem.wrap _ _ _ _ (letOwnedTupleGo target it v >>= _)) fs s'
    rw [Sem.bind_eq_wrap', Sem.wrap_wrap]
    refine seg_wrap (wpAny_mono hr (fun _ s1 h1 => ?_) fun _ _ z => z.elim)
    rw [Sem.bind_eq_wrap', Sem.wrap_wrap]
    refine seg_wrap (wpAny_mono h1 (fun _ s2 h2 => ?_) fun _ _ z => z.elim)
    rw [Sem.bind_eq_wrap', Sem.wrap_wrap]
    rw [Sem.wrap_congr (execs body env) _ _ (K' := fun f => match f with
          | .next | .cont => .pure (.again (.forLoop target it body [] env))
          | .brk => .pure (.done .next)
          | .ret v => .pure (.done (.ret v))) (H' := (fun e => (do noteFrame e env; theTreesLotGoes e : Sem Unit).wrap (fun _ => .raise e) .raise id id))
      (fun f => by cases f <;> rfl)
      (fun e => by first | exact Sem.bind_eq_wrap _ _ | (show (do noteFrame e env; theTreesLotGoes e : Sem Unit).bind (fun _ => .raise e) = _; rw [Sem.bind_eq_wrap]))]
    exact h2
theorem seg_block0 {c : Code} {p : Pos} {l kp : List Value} {k : Result → Sem PySem.Fin} {g : Bool}
    (h : Seg (model prog w) A R Y n s₀ c (k (.ok .next)) fs s) :
    Seg (model prog w) A R Y n s₀ (.block [] env) ((model prog w).den (.block [] env)) (.ret k none g l c p kp :: fs) s := by
  show Seg _ A R Y n s₀ _ (leafOf (.ok .next)) _ s
  exact seg_leaf (.ok .next) h
end
/-- a for whose turns may hand out: as tFor, ys is out so far -/
def tGFor (wi : TI) (g : TG) (tb : TGn) : TGn := fun D ys σ H => wi σ H fun J H1 => ∃ W : Nat → Nat → List V → L2.St → Hp → Prop, (∃ m, W 0 m ys σ H1) ∧ ∀ i m ys σ H, W i m ys σ H →
  (J.stop i H ∧ D.nx ys σ H) ∨ (J.go i H ∧ ∃ N : List V → L2.St → Hp → Prop, (∀ ys' σ' H', N ys' σ' H' → ∃ m', m' < m ∧ W (i + 1) m' ys' σ' H') ∧ ∀ x H', J.yld i H x H' → g x σ H' fun σ2 H2 => tb { D with nx := N, ct := N, bk := D.nx } ys σ2 H2)
section
variable {X : Cx}
theorem gs_for {tg iter : Expr} {body : List Stmt} {wi : TI} {g : TG} {tb : TGn} {pos : Pos} (hno : ∀ e s', X.xe e s' → False) (hc : X.calm = true) (hi : PI X tg iter wi) (hg : PG X tg g) (hb : GSs X body tb)
    (hs : ∀ x, foldedSetIterable iter X.env x = pure x := by intro _; rfl) : GS X (.For tg iter body [] pos) (tGFor wi g tb) := by
  refine ⟨fun A S ip R n ys s₀ c fs K J gd lv s σ H D gc hn k hI ht => ?_⟩
  obtain ⟨acc, cc, r, I⟩ := hI
  refine seg_For hs ?_
  rw [gc.over]
  refine wpAny_mono (hi.run _ s σ H _ I ht) (fun v s1 h1 => wpAny_mono h1 (fun itv s2 h2 => ?_) fun x s' hx => (hno x s' hx).elim) fun x s' hx => (hno x s' hx).elim
  obtain ⟨it, fp, tn, J', H2, e, I2, T, st2, f2, W, ⟨m0, w0⟩, turn⟩ := h2
  subst e
  have hfS : ∀ b ∈ fp, S ≠ b := fun b hb => (f2 b hb).2.2.2.2.2 (S, lstObj acc cc) (List.mem_append_right _ List.mem_cons_self)
  have stat : ∀ {H' : Hp} {acc' : Array Value} {c' : Nat}, (∀ b ∈ fp, H' b = none) → ∀ b ∈ fp, FpOk X ((S, lstObj acc' c') :: ip) H' b := fun hn b hb => ⟨hn b hb, (f2 b hb).2.1, (f2 b hb).2.2.1, (f2 b hb).2.2.2.1, (f2 b hb).2.2.2.2.1, fun p hp => by
      rcases List.mem_append.mp hp with z | z
      · exact (f2 b hb).2.2.2.2.2 p (List.mem_append_left _ z)
      · rcases List.mem_cons.mp z with z | z
        · rw [z]; exact hfS b hb
        · exact (f2 b hb).2.2.2.2.2 p (List.mem_append_right _ (List.mem_cons_of_mem _ z))⟩
  intro p
  have gl := fun (kk : Result → Sem PySem.Fin) => gc_loop (k := kk) (c' := .forLoop tg (.ref it) body [] X.env) (l := lv []) (kp := []) (p := p) gc rfl rfl
  have loop : ∀ (m i n : Nat) (ys : List V) (s₀ s : Shared) (σ : L2.St) (H : Hp), n + ys.length = sizeLine → W i m ys σ H → GI X S ip ys σ H s → tn i s.heap → (∀ b ∈ fp, H b = none) →
      Seg (model X.prog X.w) A R (GY X S) n s₀ (.forLoop tg (.ref it) body [] X.env) ((model X.prog X.w).den (.forLoop tg (.ref it) body [] X.env))
        (.ret (fun r => ((match r with | .ok f => (.pure f : Sem Flow) | .error e => .raise e).onRaise (cameBack X.env)).wrap K J gd lv) none (gd false) (lv []) c p [] :: fs) s := by
    intro m
    induction m using Nat.strongRecOn with
    | ind m ih =>
      intro i n ys s₀ s3 σ3 H3 hn w hI st3 fr3
      refine seg_forLoop ?_
      rw [(gl _).over]
      obtain ⟨acc, cc, r, I⟩ := hI
      rcases turn i m ys σ3 H3 w with ⟨stop, qn⟩ | ⟨go, N, hN, step⟩
      · refine wpAny_mono (T.done X rfl rfl rfl hc i _ s3 σ3 H3 (fun _ _ => False) I (stat fr3) st3 stop) (fun r' s4 hr4 => ?_) fun _ _ z => z
        obtain ⟨hr, I4⟩ := hr4
        subst hr
        exact seg_again rfl (seg_block0 (k.ok n ys s₀ s4 .next hn ⟨σ3, H3, ⟨acc, cc, r, I4⟩, qn⟩))
      · refine wpAny_mono (T.item X rfl rfl rfl hc i _ s3 σ3 H3 (fun _ _ => False) I (stat fr3) st3 go) (fun r' s4 hr4 => ?_) fun _ _ z => z
        obtain ⟨u, hr, h4⟩ := hr4
        subst hr
        refine wpAny_mono h4 (fun _ s5 h5 => ?_) fun _ _ z => z
        obtain ⟨x, H5, I5, r5, y5, st5, fr5⟩ := h5
        have I5' := I5.pinned (stat fr5) (T.obj _ _ st5)
        refine wpAny_mono (hg.run _ s5 σ3 H5 x u _ I5' r5 (step x H5 y5)) (fun _ s6 h6 => ?_) fun x s' hx => hno x s' hx
        obtain ⟨σ6, H6, I6, q6⟩ := h6
        have g1 := gl (fun r => ((match r with | .ok f => (.pure f : Sem Flow) | .error e => .raise e).onRaise (cameBack X.env)).wrap K J gd lv)
        have gl' : GC X S (ip ++ pinsAt fp s5.heap) A (.forLoop tg (.ref it) body [] X.env) (.ret (fun r => ((match r with | .ok f => (.pure f : Sem Flow) | .error e => .raise e).onRaise (cameBack X.env)).wrap K J gd lv) none (gd false) (lv []) c p [] :: fs) id :=
          { pn := g1.pn, apart := g1.apart, over := g1.over, split := g1.split, guard := g1.guard, gd := rfl,
            ip := fun q hq => (List.mem_append.mp hq).elim (gc.ip q) fun z => Ne.symm (hfS q.1 (of_pinsAt z).1) }
        have back : ∀ {ys' : List V} {σ7 : L2.St} {H7 : Hp} {s7 : Shared}, GI X S (ip ++ pinsAt fp s5.heap) ys' σ7 H7 s7 → GI X S ip ys' σ7 H7 s7 ∧ tn (i + 1) s7.heap ∧ ∀ b ∈ fp, H7 b = none := fun {ys' σ7 H7 s7} hI7 => by
          obtain ⟨a7, c7, r7, J7⟩ := hI7
          refine ⟨⟨a7, c7, r7, J7.pins_of fun q hq => J7.pin q (List.mem_append_right _ ?_)⟩, T.keep _ _ _ st5 fun b hb o e => (J7.pin (b, o) (List.mem_append_right _ (List.mem_cons_of_mem _ (List.mem_append_right _ (mem_pinsAt hb e))))).1, fun b hb => ?_⟩
          · rcases List.mem_cons.mp hq with z | z
            · rw [z]; exact List.mem_cons_self
            · exact List.mem_cons_of_mem _ (List.mem_append_left _ z)
          · obtain ⟨o, e, d⟩ := T.obj _ _ st5 b hb
            exact (J7.pin (b, o) (List.mem_append_right _ (List.mem_cons_of_mem _ (List.mem_append_right _ (mem_pinsAt hb e))))).2.1
        refine hb.run A S (ip ++ pinsAt fp s5.heap) R n ys s₀ _ _ _ _ id id s6 σ6 H6 { D with nx := N, ct := N, bk := D.nx } gl' hn ⟨fun n' ys' s₀' s7 f hn' hs => ?_, fun n' s₀' x s3 hx => (hno x s3 hx).elim⟩ ⟨acc, cc, r, I6⟩ q6
        cases f with
        | next =>
          obtain ⟨σ7, H7, I7, n7⟩ := hs
          obtain ⟨m', hm, w7⟩ := hN ys' σ7 H7 n7
          obtain ⟨b1, b2, b3⟩ := back I7
          exact seg_again rfl (ih m' hm (i + 1) n' ys' s₀' s7 σ7 H7 hn' w7 b1 b2 b3)
        | cont =>
          obtain ⟨σ7, H7, I7, n7⟩ := hs
          obtain ⟨m', hm, w7⟩ := hN ys' σ7 H7 n7
          obtain ⟨b1, b2, b3⟩ := back I7
          exact seg_again rfl (ih m' hm (i + 1) n' ys' s₀' s7 σ7 H7 hn' w7 b1 b2 b3)
        | brk =>
          obtain ⟨σ7, H7, I7, q7⟩ := hs
          exact seg_leaf (.ok .next) (k.ok n' ys' s₀' s7 .next hn' ⟨σ7, H7, (back I7).1, q7⟩)
        | ret v =>
          obtain ⟨x7, σ7, H7, I7, r7, q7⟩ := hs
          exact seg_leaf (.ok (.ret v)) (k.ok n' ys' s₀' s7 (.ret v) hn' ⟨x7, σ7, H7, (back I7).1, r7, q7⟩)
  exact loop m0 0 n ys s₀ s2 σ H2 hn w0 ⟨acc, cc, r, I2⟩ st2 fun b hb => (f2 b hb).1
end
/-! ### no exception leaves; a generator def by its body -/
section
variable {X : Cx} {S : Addr} {ip : List (Addr × Obj)} {ys : List V} {σ : L2.St} {H : Hp} {s : Shared} {E : Value → Shared → Prop} {D : GEnds} {f : Flow}
theorem gi_wish (h : GI X S ip ys σ H s) : GI (X.wish E) S ip ys σ H s := match h with | ⟨a, c, r, I⟩ => ⟨a, c, r, I.wish E⟩
theorem gi_unwish (h : GI (X.wish E) S ip ys σ H s) : GI X S ip ys σ H s := match h with | ⟨a, c, r, I⟩ => ⟨a, c, r, I.unwish⟩
theorem gsp_unwish (h : GSP (X.wish E) S ip D ys f s) : GSP X S ip D ys f s := by
  cases f with
  | next => obtain ⟨a, b, h1, h2⟩ := h; exact ⟨a, b, gi_unwish h1, h2⟩
  | brk => obtain ⟨a, b, h1, h2⟩ := h; exact ⟨a, b, gi_unwish h1, h2⟩
  | cont => obtain ⟨a, b, h1, h2⟩ := h; exact ⟨a, b, gi_unwish h1, h2⟩
  | ret u => obtain ⟨v, a, b, h1, h2⟩ := h; exact ⟨v, a, b, gi_unwish h1, h2⟩
theorem gss_nox {st : List Stmt} {t : TGn} (h : GSs X.nox st t) : GSs X st t := by
  refine ⟨fun A S ip R n ys s₀ c fs K J gd lv s σ H D g hn k hI ht => ?_⟩
  refine seg_imp (R := R) (Y := GY X.nox S) (fun _ _ _ _ z => z) (fun n s₀ v s kap kap' hkk hy => ?_) n (h.run A S ip R n ys s₀ c fs K J gd lv s σ H D ⟨g.pn, g.ip, g.apart, g.over, g.split, g.guard, g.gd⟩ hn ⟨fun n' ys' s₀' s' f hn' hs => ?_, fun _ _ _ _ z => z.elim⟩ (gi_wish hI) ht)
  · obtain ⟨ys, x, ip, σ, H, h1, h2, h3, h4⟩ := hy
    exact ⟨ys, x, ip, σ, H, h1, h2, gi_unwish h3, fun s' z => hkk _ _ (h4 s' z)⟩
  · refine seg_imp (R := R) (Y := GY X S) (fun _ _ _ _ z => z) (fun n s₀ v s kap kap' hkk hy => ?_) n' (k.ok n' ys' s₀' s' f hn' (gsp_unwish hs))
    obtain ⟨ys, x, ip, σ, H, h1, h2, h3, h4⟩ := hy
    exact ⟨ys, x, ip, σ, H, h1, h2, gi_wish h3, fun s' z => hkk _ _ (h4 s' z)⟩
end
section
variable {P : Program} {w : World} {K : PySem.W.Frag} {mg : Str → Option Value} {base : Heap}
theorem okGen {x qual : Str} {st : Stmt} {f : Addr} {fd : FuncData} {N ps : List Str} {k : Nat} {sp : SpG} (F : Fun K x qual st f fd) (S : GScope N ps (defScope st)) (cnt : ∀ vs H Q E, sp vs H Q E → vs.length = ps.length)
    (body : ∀ (cdv : Value) (A : Around) (ou : List Env) (t : Shared) (H : Hp) (vs : List V) (Q : List V → Hp → Prop) (E : XK) (pn : List (Addr × Obj)), Room k (A.deeper (envOfC qual (defScope st) t.heap.objs.size f cdv)) → sp vs H Q E →
      ∃ r, GSs (gcxOf P w K mg base N qual (defScope st) f cdv A ou t H E pn).nox (defBody st) r ∧ r ⟨fun ys _ H' => Q ys H', fun ys v H' => v = .non ∧ Q ys H', fun _ _ _ => False, fun _ _ _ => False⟩ [] (L2.start N vs) H) :
    GFn P w K mg base (k + 1) f fd ps sp := by
  obtain ⟨oc, od, kV, doc, pm, an, cdv, ct, osl, rfl, lk, hcd⟩ := F.ex
  refine gfn_of lk hcd S cnt fun A ou t H vs Q E pn hr hsp => ?_
  obtain ⟨r, h, q⟩ := body cdv A ou t H vs Q E pn hr hsp
  exact ⟨r, gss_nox h, q⟩
end
section
variable {X : Cx}
theorem passG {X : Cx} : Passes (CX X.prog X.w) X (fun _ _ _ => False) := fun pins σ H s e s' _ h => by
  obtain ⟨_, _, _, _, _, _, _, _, _, _, _, _, z⟩ := h
  exact z.elim
theorem noStop0 {K : PySem.W.Frag} : NoStop K (fun _ _ _ => False) := fun _ _ _ z => z.elim
theorem r_gone {D : GEnds} {ys : List V} {σ : L2.St} {H : Hp} {t u : TGn} (h : t ⟨fun ys' σ' H' => u D ys' σ' H', D.rt, D.bk, D.ct⟩ ys σ H) : tGThen t u D ys σ H := h
theorem r_gplain {D : GEnds} {ys : List V} {σ : L2.St} {H : Hp} {t : TS} (h : t ⟨D.nx ys, D.rt ys, D.bk ys, D.ct ys⟩ σ H) : tPlain t D ys σ H := h
theorem r_gyield {D : GEnds} {ys : List V} {σ : L2.St} {H : Hp} {te : TE} (hy : ys.length < sizeLine) (h : te σ H fun x H1 => D.nx (ys ++ [x]) σ H1) : tGYield te D ys σ H := ⟨hy, h⟩
theorem r_g0 {D : GEnds} {ys : List V} {σ : L2.St} {H : Hp} (h : D.nx ys σ H) : tG0 D ys σ H := h
theorem r_gfor {wi : TI} {g : TG} {tb : TGn} {D : GEnds} {ys : List V} {σ : L2.St} {H : Hp} (h : wi σ H fun J H1 => ∃ W : Nat → Nat → List V → L2.St → Hp → Prop, (∃ m, W 0 m ys σ H1) ∧ ∀ i m ys σ H, W i m ys σ H →
  (J.stop i H ∧ D.nx ys σ H) ∨ (J.go i H ∧ ∃ N : List V → L2.St → Hp → Prop, (∀ ys' σ' H', N ys' σ' H' → ∃ m', m' < m ∧ W (i + 1) m' ys' σ' H') ∧ ∀ x H', J.yld i H x H' → g x σ H' fun σ2 H2 => tb ⟨N, D.rt, D.nx, N⟩ ys σ2 H2)) : tGFor wi g tb D ys σ H := h
/-- a generator's turns over what is walked -/
theorem gforI {J : It} {n : Nat} {G : Hp → Prop} {Y : Nat → Hp → V → Hp → Prop} (w : Walk J n G Y) {g : TG} {tb : TGn} {nx : List V → L2.St → Hp → Prop} {rt : List V → VK} {ys : List V} {σ : L2.St} {H : Hp} (Pv : Nat → List V → L2.St → Hp → Prop) (h0 : Pv 0 ys σ H) (hG : ∀ i ys σ H, i ≤ n → Pv i ys σ H → G H)
    (hs : ∀ i x ys σ H H', i < n → Pv i ys σ H → Y i H x H' → g x σ H' fun σ2 H2 => tb ⟨Pv (i + 1), rt, nx, Pv (i + 1)⟩ ys σ2 H2) (hd : ∀ ys σ H, Pv n ys σ H → nx ys σ H) :
    ∃ W : Nat → Nat → List V → L2.St → Hp → Prop, (∃ m, W 0 m ys σ H) ∧ ∀ i m ys σ H, W i m ys σ H →
      (J.stop i H ∧ nx ys σ H) ∨ (J.go i H ∧ ∃ N : List V → L2.St → Hp → Prop, (∀ ys' σ' H', N ys' σ' H' → ∃ m', m' < m ∧ W (i + 1) m' ys' σ' H') ∧ ∀ x H', J.yld i H x H' → g x σ H' fun σ2 H2 => tb ⟨N, rt, nx, N⟩ ys σ2 H2) := by
  refine ⟨fun i m ys σ H => i + m = n ∧ Pv i ys σ H, ⟨n, Nat.zero_add n, h0⟩, fun i m ys σ H ⟨e, p⟩ => ?_⟩
  cases m with
  | zero =>
    have e' : i = n := e
    subst e'
    exact .inl ⟨w.stops _ (hG _ ys σ H (Nat.le_refl _) p), hd _ _ _ p⟩
  | succ m =>
    refine .inr ⟨w.goes i H (by omega) (hG i ys σ H (by omega) p), Pv (i + 1), fun ys' σ' H' q => ⟨m, Nat.lt_succ_self m, by omega, q⟩, fun x H' y => ?_⟩
    exact hs i x ys σ H H' (by omega) p (w.yields i H x H' (by omega) (hG i ys σ H (by omega) p) y)
theorem gforA {J : It} {G : Hp → Prop} {xs : List V} (w : Walk J xs.length G (YAt xs)) {g : TG} {tb : TGn} {nx : List V → L2.St → Hp → Prop} {rt : List V → VK} {ys : List V} {σ : L2.St} {H : Hp} (Pv : Nat → List V → L2.St → Hp → Prop) (h0 : Pv 0 ys σ H) (hG : ∀ i ys σ H, i ≤ xs.length → Pv i ys σ H → G H)
    (hs : ∀ i ys σ H (hi : i < xs.length), Pv i ys σ H → g xs[i] σ H fun σ2 H2 => tb ⟨Pv (i + 1), rt, nx, Pv (i + 1)⟩ ys σ2 H2) (hd : ∀ ys σ H, Pv xs.length ys σ H → nx ys σ H) :
    ∃ W : Nat → Nat → List V → L2.St → Hp → Prop, (∃ m, W 0 m ys σ H) ∧ ∀ i m ys σ H, W i m ys σ H →
      (J.stop i H ∧ nx ys σ H) ∨ (J.go i H ∧ ∃ N : List V → L2.St → Hp → Prop, (∀ ys' σ' H', N ys' σ' H' → ∃ m', m' < m ∧ W (i + 1) m' ys' σ' H') ∧ ∀ x H', J.yld i H x H' → g x σ H' fun σ2 H2 => tb ⟨N, rt, nx, N⟩ ys σ2 H2) :=
  gforI w Pv h0 hG (fun i x ys σ H H' hi p y => by
    obtain ⟨rfl, e⟩ := y
    rw [List.getElem?_eq_getElem hi] at e
    cases e
    exact hs i ys σ H' hi p) hd
end
end Xk
local macro_rules | `(tactic| fail "one") => `(tactic| with_reducible first
  | refine Xk.r_gone ?_ | refine Xk.r_gplain ?_ | refine Xk.r_g0 ?_ | refine Xk.r_gfor ?_)

set_option Elab.async false
set_option linter.all false
set_option maxRecDepth 100000
namespace Xk
open PySem PySem.Spec PyProof.Rows L2 GenW
theorem zipNoLen : typeLookup (.type "zip") "__len__" = pure none := by rw [typeLookup_type, builtinLookup_eq_fast]; kernel_rfl
theorem zipNoHint : typeLookup (.type "zip") "__length_hint__" = pure none := by rw [typeLookup_type, builtinLookup_eq_fast]; kernel_rfl
/-- a zip of two lists amid its turns, the pairs that it gave out being kept (in S) -/
def ZSt (z TI TO i1 i2 l1 l2 S : Addr) (xs ys : Array Value) (i : Nat) (h : Heap) : Prop :=
  IsPair h TI (.ref i1) (.ref i2) ∧ h.IsListIter i1 l1 i ∧ h.IsListIter i2 l2 i ∧ h.IsList l1 xs ∧ h.IsList l2 ys ∧
    ((IsZip h z TI TO .none ∧ ∃ a b, IsPair h TO a b) ∨ ∃ T f oT, IsZipHeld h z TI TO T f ∧ h.get? T = some oT ∧ T ≠ z ∧ T ≠ i1 ∧ T ≠ i2 ∧ T ≠ S ∧ ∃ oo, h.get? TO = some oo)
section
variable {X : Cx} {A : Around} {z TI TO i1 i2 l1 l2 S : Addr} {xs ys : Array Value} {vx vy : List V} {pins : List (Addr × Obj)} {σ : L2.St} {H0 : Hp} {R : Result → Shared → Prop} {res : Value}
structure ZOff (z TI TO i1 i2 l1 l2 S : Addr) : Prop where
  z : S ≠ z
  TI : S ≠ TI
  TO : S ≠ TO
  i1 : S ≠ i1
  i2 : S ≠ i2
  l1 : S ≠ l1
  l2 : S ≠ l2
/-- the pairs' tuples -/
structure Prs (H0 H : Hp) (ts : List Addr) (vx vy : List V) : Prop where
  at_ : ∀ (j : Nat) (t : Addr), ts[j]? = some t → H0 t = none ∧ ∃ x y, vx[j]? = some x ∧ vy[j]? = some y ∧ H t = some (.tup [x, y])
theorem zip_next {i : Nat} {s : Shared} {x y : Value} {E : Value → Shared → Prop} {Q : Option Value → Shared → Prop} (D : ZipApart z TI TO i1 i2 l1 l2) (off : ZOff z TI TO i1 i2 l1 l2 S) (hS : S < s.heap.objs.size) (st : ZSt z TI TO i1 i2 l1 l2 S xs ys i s.heap) (hx : xs[i]? = some x) (hy : ys[i]? = some y)
    (hQ : ∀ h', (∀ b o, b ∉ [z, TO, i1, i2] → s.heap.get? b = some o → h'.get? b = some o) → IsPair h' s.heap.objs.size x y → h'.objs.size = s.heap.objs.size + 1 →
      (∀ h'', (∀ b o, b ≠ S → h'.get? b = some o → h''.get? b = some o) → ZSt z TI TO i1 i2 l1 l2 S xs ys (i + 1) h'') → Q (some (.ref s.heap.objs.size)) { s with heap := h' }) :
    wpAny (model X.prog X.w) A (pyNext (.ref z)) Q E s := by
  obtain ⟨hTI, h1, h2, hl1, hl2, hz⟩ := st
  have big : ∀ {c o}, s.heap.get? c = some o → s.heap.objs.size ≠ c := fun e => Nat.ne_of_gt (Heap.lt_size e)
  have b1 : s.heap.objs.size ≠ i1 := let ⟨_, e, _⟩ := h1; big e
  have b2 : s.heap.objs.size ≠ i2 := let ⟨_, e, _⟩ := h2; big e
  rcases hz with ⟨hz, a, b, hTO⟩ | ⟨T, f, oT, hz, hT, r1, r2, r3, r4, oo, hoo⟩
  · refine wpAny_pyNext_zip_item D hz hTI hTO h1 h2 hl1 hl2 hx hy fun h' a1 a2 a3 a4 a5 a6 hk => ?_
    refine hQ h' (fun c o hc e => hk c o (fun q => hc (by simp [q])) (fun q => hc (by simp [q])) (fun q => hc (by simp [q])) (fun q => hc (by simp [q])) e) a5 a6 fun h'' k => ?_
    refine ⟨k _ _ off.TI.symm (hk _ _ D.TIz D.TITO D.TIi1 D.TIi2 hTI), a3.at fun o e => k _ o off.i1.symm e, a4.at fun o e => k _ o off.i2.symm e, hl1.at fun o e => k _ o off.l1.symm (hk _ o D.l1z D.l1TO D.l1i1 D.l1i2 e), hl2.at fun o e => k _ o off.l2.symm (hk _ o D.l2z D.l2TO D.l2i1 D.l2i2 e),
      .inr ⟨s.heap.objs.size, false, _, k _ _ off.z.symm a1, k _ _ (Nat.ne_of_gt hS) a5, big hz, b1, b2, Nat.ne_of_gt hS, _, k _ _ off.TO.symm a2⟩⟩
  · refine wpAny_pyNext_zip_item_held D hz hT hTI h1 h2 hl1 hl2 hx hy fun h' a1 a3 a4 a5 a6 hk => ?_
    refine hQ h' (fun c o hc e => hk c o (fun q => hc (by simp [q])) (fun q => hc (by simp [q])) (fun q => hc (by simp [q])) e) a5 a6 fun h'' k => ?_
    refine ⟨k _ _ off.TI.symm (hk _ _ D.TIz D.TIi1 D.TIi2 hTI), a3.at fun o e => k _ o off.i1.symm e, a4.at fun o e => k _ o off.i2.symm e, hl1.at fun o e => k _ o off.l1.symm (hk _ o D.l1z D.l1i1 D.l1i2 e), hl2.at fun o e => k _ o off.l2.symm (hk _ o D.l2z D.l2i1 D.l2i2 e),
      .inr ⟨T, true, oT, k _ _ off.z.symm a1, k _ _ r4 (hk _ _ r1 r2 r3 hT), r1, r2, r3, r4, oo, k _ _ off.TO.symm (hk _ _ D.TOz D.TOi1 D.TOi2 hoo)⟩⟩
theorem zip_over {i : Nat} {s : Shared} {E : Value → Shared → Prop} {Q : Option Value → Shared → Prop} (hh : A.handled = none) (D : ZipApart z TI TO i1 i2 l1 l2) (st : ZSt z TI TO i1 i2 l1 l2 S xs ys i s.heap) (he : xs[i]? = none ∨ ys[i]? = none)
    (hQ : ∀ h', (∀ b o, b ∉ [z, TO, i1, i2] → s.heap.get? b = some o → h'.get? b = some o) → Q none { s with heap := h' }) : wpAny (model X.prog X.w) A (pyNext (.ref z)) Q E s := by
  obtain ⟨hTI, h1, h2, hl1, hl2, hz⟩ := st
  rcases hz with ⟨hz, a, b, hTO⟩ | ⟨T, f, oT, hz, hT, r1, r2, r3, r4, oo, hoo⟩
  · exact wpAny_pyNext_zip_end hh D hz hTI hTO h1 h2 hl1 hl2 he fun h' hk => hQ h' fun c o hc e => hk c o (fun q => hc (by simp [q])) (fun q => hc (by simp [q])) (fun q => hc (by simp [q])) (fun q => hc (by simp [q])) e
  · exact wpAny_pyNext_zip_end_held hh D hz hT hTI h1 h2 hl1 hl2 he fun h' hk => hQ h' fun c o hc e => hk c o (fun q => hc (by simp [q])) (fun q => hc (by simp [q])) (fun q => hc (by simp [q])) e
theorem zip_drain (hh : A.handled = none) (D : ZipApart z TI TO i1 i2 l1 l2) (off : ZOff z TI TO i1 i2 l1 l2 S) (rx : Vals vx xs.toList) (ry : Vals vy ys.toList) {n : Nat} (hn : n = min vx.length vy.length) (hsz : n ≤ sizeLine)
    (hend : ∀ (H : Hp) (s' : Shared) (ts : List Addr) (acc : Array Value) (c : Nat), Inv X pins σ H s' → (∀ b ∈ [z, TO, i1, i2, S], FpOk X pins H b) → s'.heap.get? S = some (lstObj acc c) → Vals (ts.map V.ref) acc.toList → ts.length = n → Same H0 H → Prs H0 H ts vx vy → R (.ok (.ret res)) s') :
    ∀ (m i : Nat) (s : Shared) (H : Hp) (ts : List Addr) (acc : Array Value) (c : Nat), m + i = n → ZSt z TI TO i1 i2 l1 l2 S xs ys i s.heap → Inv X pins σ H s → (∀ b ∈ [z, TO, i1, i2, S], FpOk X pins H b) → s.heap.get? S = some (lstObj acc c) → Vals (ts.map V.ref) acc.toList → ts.length = i → Same H0 H → Prs H0 H ts vx vy →
      codeAny (model X.prog X.w) A (.builtin "list.extend.loop" ⟨[.ref S, .ref z, res], []⟩) R s := by
  have lx : vx.length = xs.size := by have := rx.length; simpa using this
  have ly : vy.length = ys.size := by have := ry.length; simpa using this
  intro m
  induction m with
  | zero =>
    intro i s H ts acc c hm st I fp hS rv hl sm pr
    refine codeAny_builtin F.entry_extend_loop ?_
    rw [Around.under_plainId F.plain_extend_loop _]
    show wpAny _ A.in1 (pyNext (.ref z) >>= _) _ _ s
    have hi : i = n := by omega
    have hend2 : xs[i]? = none ∨ ys[i]? = none := by
      rcases Nat.le_total vx.length vy.length with q | q
      · exact .inl (Array.getElem?_eq_none (by omega))
      · exact .inr (Array.getElem?_eq_none (by omega))
    refine wpAny_bind (zip_over (X := X) hh D st hend2 fun h' k => ?_)
    refine wpAny_pure ?_
    have I2 : Inv X pins σ H { s with heap := h' } := I.turnedL (t' := s.toks) (ch := [z, TO, i1, i2]) k fun b hb => fp b (List.mem_append_left [S] hb)
    have hSn : S ∉ [z, TO, i1, i2] := by simp [off.z, off.TO, off.i1, off.i2]
    exact hend H _ ts acc c I2 fp (k S _ hSn hS) rv (hl.trans hi) sm pr
  | succ m ih =>
    intro i s H ts acc c hm st I fp hS rv hl sm pr
    refine codeAny_builtin F.entry_extend_loop ?_
    rw [Around.under_plainId F.plain_extend_loop _]
    show wpAny _ A.in1 (pyNext (.ref z) >>= _) _ _ s
    have hix : i < xs.size := by omega
    have hiy : i < ys.size := by omega
    have ex := Array.getElem?_eq_getElem hix
    have ey := Array.getElem?_eq_getElem hiy
    have hvx : vx[i]? = some vx[i] := List.getElem?_eq_getElem (by omega)
    have hvy : vy[i]? = some vy[i] := List.getElem?_eq_getElem (by omega)
    refine wpAny_bind (zip_next (X := X) D off (Heap.lt_size hS) st ex ey fun h' k hT hz hst => ?_)
    have hSn : S ∉ [z, TO, i1, i2] := by simp [off.z, off.TO, off.i1, off.i2]
    have hS1 := k S _ hSn hS
    have hasz : acc.size = i := by
      have := rv.length
      rw [List.length_map, hl] at this
      simpa using this.symm
    show wpAny _ A.in1 (updateSeq S (·.push (.ref s.heap.objs.size)) >>= _) _ _ _
    refine wpAny_bind ?_
    refine wpAny_updateSeq hS1 rfl (wpAny_pure ⟨plainId_quiet F.plain_extend_loop _, ?_⟩) (by omega) (by show (acc.push _).size ≤ sizeLine + 1; rw [Array.size_push]; omega)
    have keep3 : ∀ b o, b ≠ S → h'.get? b = some o → (h'.update S (Obj.mapSeq (·.push (.ref s.heap.objs.size)))).get? b = some o := fun b o hbS e => (Heap.get?_update_other _ _ (Ne.symm hbS)).trans e
    have hTS : s.heap.objs.size ≠ S := Nat.ne_of_gt (Heap.lt_size hS)
    have hTn : H s.heap.objs.size = none := I.hok.fresh (Nat.le_refl _)
    have gx : RelV vx[i] xs[i] := by
      obtain ⟨u, hu, r⟩ := rx.get hvx
      have : u = xs[i] := by simpa [ex] using hu.symm
      rw [← this]; exact r
    have gy : RelV vy[i] ys[i] := by
      obtain ⟨u, hu, r⟩ := ry.get hvy
      have : u = ys[i] := by simpa [ey] using hu.symm
      rw [← this]; exact r
    have I2 : Inv X pins σ (upd H s.heap.objs.size (.tup [vx[i], vy[i]])) { s with heap := h'.update S (Obj.mapSeq (·.push (.ref s.heap.objs.size))) } :=
      I.turnedNew (t' := s.toks) (ch := [z, TO, i1, i2, S]) (fun b o hb e => keep3 b o (fun q => hb (by simp [q])) (k b o (fun q => hb (List.mem_append_left [S] q)) e)) fp (Nat.le_refl _)
        ⟨by show 2 ≤ sizeLine; decide, [xs[i], ys[i]], .cons gx (.cons gy .nil), ⟨_, keep3 _ _ hTS hT, rfl, _, rfl⟩⟩
    refine ih (i + 1) _ (upd H s.heap.objs.size (.tup [vx[i], vy[i]])) (ts ++ [s.heap.objs.size]) (acc.push (.ref s.heap.objs.size)) _ (by omega) (hst _ keep3) I2 (fun b hb => ?_) (Heap.get?_update_self _ hS1 rfl) ?_ (by rw [List.length_append, hl]; rfl) (sm.trans (same_new hTn)) ⟨fun j t e => ?_⟩
    · obtain ⟨f1, f2⟩ := fp b hb
      refine ⟨?_, f2⟩
      have hne : b ≠ s.heap.objs.size := by
        obtain ⟨hTI, ⟨o1, e1, _⟩, ⟨o2, e2, _⟩, hl1, hl2, hz'⟩ := st
        have big : ∀ {c o}, s.heap.get? c = some o → c ≠ s.heap.objs.size := fun e => Nat.ne_of_lt (Heap.lt_size e)
        have e' : b = z ∨ b = TO ∨ b = i1 ∨ b = i2 ∨ b = S := by simpa using hb
        rcases e' with q | q | q | q | q
        · rw [q]; rcases hz' with ⟨q1, _⟩ | ⟨_, _, _, q1, _⟩ <;> exact big q1
        · rw [q]; rcases hz' with ⟨_, _, _, q1⟩ | ⟨_, _, _, _, _, _, _, _, _, _, q1⟩ <;> exact big q1
        · rw [q]; exact big e1
        · rw [q]; exact big e2
        · rw [q]; exact hTS.symm
      rw [upd_ne hne]; exact f1
    · rw [List.map_append, Array.toList_push]
      exact rv.append (.cons rfl .nil)
    · by_cases hj : j < ts.length
      · rw [List.getElem?_append_left hj] at e
        obtain ⟨q1, x, y, q2, q3, q4⟩ := pr.at_ j t e
        exact ⟨q1, x, y, q2, q3, upd_old hTn q4⟩
      · rw [List.getElem?_append_right (by omega)] at e
        have e3 : j = i := by
          cases hh : j - ts.length with
          | zero => omega
          | succ k => rw [hh] at e; simp at e
        subst e3
        rw [hl, Nat.sub_self] at e
        cases e
        refine ⟨?_, _, _, hvx, hvy, upd_same⟩
        cases q : H0 s.heap.objs.size with
        | none => rfl
        | some u => rw [sm _ _ q] at hTn; cases hTn
/-- what list(zip(a, b)) gives -/
def tListZip (K : PySem.W.Frag) (ta : TA) : TE := fun σ H Q => ta σ H fun vs H1 => ∃ (a b : Addr) (xs ys : List V), vs = [.ref a, .ref b] ∧ SqL K H1 a xs ∧ SqL K H1 b ys ∧
  ∀ (ts : List Addr) (H2 : Hp) (p : Addr), Same H1 H2 → Prs H1 H2 ts xs ys → ts.length = min xs.length ys.length → H1 p = none → H2 p = some (.lst (ts.map V.ref)) → Q (.ref p) H2
theorem pe_listZip {e e2 : Expr} {ta : TA} {p pos p2 pos2 : Pos} (hc : X.calm = true) (hg : Gl X "list") (hm : X.mg "list" = none) (hgz : Gl X "zip") (hmz : X.mg "zip" = none) (ha : PA X [e, e2] ta)
    (hs : starEach [e, e2] X.env = (false, eval e X.env) :: starEach [e2] X.env := by rfl) (hpl : (backTo pos2 (starEach [e2] X.env)).any (·.1) = false := by rfl)
    (na : starEach [.Call (.Name "zip" p2) [e, e2] [] pos2] X.env = (false, eval (.Call (.Name "zip" p2) [e, e2] [] pos2) X.env) :: starEach [] X.env := by rfl) : PE X (.Call (.Name "list" p) [.Call (.Name "zip" p2) [e, e2] [] pos2] [] pos) (tListZip X.K ta) := by
  refine ⟨fun pins s σ H Q I h => ?_⟩
  refine Call_ (ld_blt I hg hm boot_list (PyProof.Rows.callWith_type1 (args_cons (Call_ (ld_blt I hgz hmz PyProof.Rows.boot_zip (PyProof.Rows.callWith_type1 (thn (ha.run pos2 pins s σ H _ I h) fun us s1 ⟨vs, H1, I1, r1, q1⟩ => ?_) hs hpl))) na) na))
  obtain ⟨a, b, xs, ys, ex, hqx, hqy, q⟩ := q1
  subst ex
  cases r1 with
  | cons r rr =>
    cases rr with
    | cons r' rr =>
      cases rr
      cases r
      cases r'
      obtain ⟨its, rv, p1, z1⟩ := I1.list hqx
      obtain ⟨its2, rv2, p2, z2⟩ := I1.list hqy
      have la : a < s1.heap.objs.size := p1.lt
      have lb : b < s1.heap.objs.size := p2.lt
      refine call_zip_2 p1.isList p2.isList fun h' hz hTI hTO h1 h2 hsz hk => args_nil ?_
      have I2 : Inv X pins σ H1 { s1 with heap := h' } := I1.kept (t' := s1.toks) hk
      have ev : EP X pins σ Q = fun u s' => ∃ v H', Inv X pins σ H' s' ∧ RelV v u ∧ Q v H' := rfl
      generalize hst : ({ heap := h', gens := s1.gens, drawn := s1.drawn, toks := s1.toks, os := s1.os } : Shared) = s2 at I2 ⊢
      have e2 : s2.heap = h' := by rw [← hst]
      have SN : h'.objs.size = s1.heap.objs.size + 5 := hsz
      refine callType_codes (Q₁ := fun obj s₁ => obj = .ref s2.heap.objs.size ∧ s₁ = { s2 with heap := s2.heap.push { cls := .type "list", data := .seq #[] } }) F.called_list (F.typeCall_list_1 _) F.entry_list_init
        (code_list_new _ ⟨rfl, rfl⟩) fun obj s₁ h₁ => ?_
      obtain ⟨rfl, rfl⟩ := h₁
      have hS : (s2.heap.push { cls := .type "list", data := .seq #[] }).get? s2.heap.objs.size = some { cls := .type "list", data := .seq #[] } := Heap.get?_push_size _ rfl
      have k1 : ∀ b o, s2.heap.get? b = some o → (s2.heap.push { cls := .type "list", data := .seq #[] }).get? b = some o := fun b o e => Heap.get?_push_of_some _ e
      have up : ∀ (h : Heap) (f : Obj → Obj), (∀ b o, s2.heap.get? b = some o → h.get? b = some o) → ∀ b o, s2.heap.get? b = some o → (h.update s2.heap.objs.size f).get? b = some o := fun h f q b o e =>
        (Heap.get?_update_other _ _ (Ne.symm (Nat.ne_of_lt (Heap.lt_size e)))).trans (q b o e)
      refine ⟨⟨_, hS, rfl⟩, F.args_list_init_2 _ _, ?_⟩
      show wpAny _ X.A.in1.in1 (do let old ← Builtin.List.listItems (.ref s2.heap.objs.size); Builtin.List.listUpdate (.ref s2.heap.objs.size) (fun _ => #[]); letGo old.toList.reverse; Builtin.List.listExtendWith (.ref s2.heap.objs.size) (.ref (s1.heap.objs.size + 4)) .none) _ _ _
      refine wpAny_bind ?_
      unfold Builtin.List.listItems
      refine wpAny_bind (wpAny_seqItems hS rfl (wpAny_pure ?_))
      show wpAny _ X.A.in1.in1 (updateSeq s2.heap.objs.size (fun _ => #[]) >>= fun _ => letGo (#[] : Array Value).toList.reverse >>= fun _ => Builtin.List.listExtendWith (.ref s2.heap.objs.size) (.ref (s1.heap.objs.size + 4)) .none) _ _ _
      refine wpAny_bind (wpAny_updateSeq hS rfl ?_)
      have hS2 := Heap.get?_update_self (Obj.mapSeq (fun _ => (#[] : Array Value))) hS rfl
      have k2 := up _ (Obj.mapSeq (fun _ => (#[] : Array Value))) k1
      refine wpAny_bind (wpAny_letGo ?_)
      unfold Builtin.List.listExtendWith
      have hz0 : IsZip s2.heap (s1.heap.objs.size + 4) (s1.heap.objs.size + 2) (s1.heap.objs.size + 3) .none := by rw [e2]; exact hz
      refine wpAny_bind (wpAny_typeOf (T := "zip") ⟨_, k2 _ _ hz0, rfl⟩ ?_)
      have hne : s2.heap.objs.size ≠ s1.heap.objs.size + 4 := by rw [e2, SN]; exact fun q => by have : (s1.heap.objs.size + 5 : Nat) = s1.heap.objs.size + 4 := q; omega
      have h1' : Builtin.List.listSameRef (.ref s2.heap.objs.size) (.ref (s1.heap.objs.size + 4)) = false := by simp [Builtin.List.listSameRef, hne]
      have h2' : (Value.type "zip" == Value.type "list") = false := by decide
      have h3' : (Value.type "zip" == Value.type "tuple") = false := by decide
      simp only [h1', h2', h3', Bool.or_false, Bool.false_eq_true, if_false]
      refine wpAny_bind (wpAny_pyIter_zip (k2 _ _ hz0) ?_)
      refine wpAny_bind (wpAny_holding ?_)
      unfold Builtin.List.listLengthHint
      refine wpAny_bind (wpAny_specialOf (T := "zip") ⟨_, k2 _ _ hz0, rfl⟩ zipNoLen ?_)
      show wpAny _ X.A.in1.in1 (specialOf (Value.ref (s1.heap.objs.size + 4)) (Str.ofString "__length_hint__") >>= _) _ _ _
      refine wpAny_bind (wpAny_specialOf (T := "zip") ⟨_, k2 _ _ hz0, rfl⟩ zipNoHint ?_)
      refine wpAny_pure ?_
      have key : ∀ (h : Heap) (c : Nat), (∀ b o, s2.heap.get? b = some o → h.get? b = some o) → h.get? s2.heap.objs.size = some (lstObj #[] c) →
          codeAny (model X.prog X.w) X.A.in1 (.builtin "list.extend.loop" ⟨[.ref s2.heap.objs.size, .ref (s1.heap.objs.size + 4), .none], []⟩) (wants (fun r s₂ => r = Value.none ∧ EP X pins σ Q (Value.ref s2.heap.objs.size) s₂) X.xe) { s2 with heap := h } := by
        intro h c k hSc
        have SN2 : s2.heap.objs.size = s1.heap.objs.size + 5 := by rw [e2]; exact SN
        have I3 : Inv X pins σ H1 { s2 with heap := h } := I2.kept (t' := s2.toks) k
        have kk : ∀ b o, h'.get? b = some o → h.get? b = some o := fun b o e => k b o (by rw [e2]; exact e)
        have fr : ∀ b, s1.heap.objs.size ≤ b → FpOk X pins H1 b := fun b hb => I1.fpOk hb (I1.hok.fresh hb)
        have off : ZOff (s1.heap.objs.size + 4) (s1.heap.objs.size + 2) (s1.heap.objs.size + 3) s1.heap.objs.size (s1.heap.objs.size + 1) a b s2.heap.objs.size := by
          rw [SN2]
          have la' : (a : Nat) < s1.heap.objs.size := la
          have lb' : (b : Nat) < s1.heap.objs.size := lb
          constructor <;> first | exact Nat.ne_of_gt (Nat.lt_of_lt_of_le la' (Nat.le_add_right _ _)) | exact Nat.ne_of_gt (Nat.lt_of_lt_of_le lb' (Nat.le_add_right _ _)) | (intro q; have q' : (s1.heap.objs.size + 5 : Nat) = _ := q; omega)
        refine zip_drain (X := X) (A := X.A.in1) (pins := pins) (σ := σ) (H0 := H1) (vx := xs) (vy := ys) (n := min xs.length ys.length) (xs := its.toArray) (ys := its2.toArray) (show X.A.in1.handled = none from I1.ok.hd hc) (PySem.W.ktu_apart s1.heap.objs.size a b la lb) off (by simpa using rv) (by simpa using rv2) rfl (Nat.le_trans (Nat.min_le_left _ _) z1)
          (fun H4 s4 ts acc c4 I4 fp4 hS4 rv4 hl4 sm4 pr4 => ?_) (min xs.length ys.length) 0 _ H1 [] #[] c rfl
          ⟨kk _ _ hTI, h1.at fun o e => kk _ o e, h2.at fun o e => kk _ o e, p1.isList.at fun o e => kk _ o (hk _ o e), p2.isList.at fun o e => kk _ o (hk _ o e), .inl ⟨kk _ _ hz, _, _, kk _ _ hTO⟩⟩ I3 (fun d hd => fr d ?_) hSc .nil rfl (Same.refl H1) ⟨fun j t e => by simp at e⟩
        · refine ⟨rfl, .ref s2.heap.objs.size, upd H4 s2.heap.objs.size (.lst (ts.map V.ref)), ?_, rfl, q ts _ s2.heap.objs.size (sm4.trans (same_new ?_)) ⟨fun j t e => ?_⟩ hl4 (I1.hok.fresh (by rw [SN2]; exact Nat.le_add_right _ _)) upd_same⟩
          · have fS := fp4 s2.heap.objs.size (by simp)
            have hSn : H4 s2.heap.objs.size = none := fS.1
            refine I4.call' (ch := [s2.heap.objs.size]) rfl ⟨fun b o q _ _ _ => q, fun b o q _ _ _ => ⟨o.slots, q⟩, fun b o q n hb => ?_, fun b o q _ => ⟨o, q⟩, fun b xs q => ?_, fun b o y q => ?_, fun b qs q => ⟨#[], ?_⟩⟩ (fun b u q => ?_) I4.bare (fun b hb => ?_)
            · rw [upd_ne fun q => hb (by rw [q]; exact List.mem_singleton.mpr rfl)]; exact n
            · rw [upd_ne (ne_of_none q hSn)]; exact q
            · rw [upd_ne (ne_of_none q hSn)]; exact q
            · rw [upd_ne (ne_of_none q hSn), q]; simp
            · by_cases hb : b = s2.heap.objs.size
              · subst hb
                rw [upd_same] at q
                cases q
                exact ⟨by rw [List.length_map, hl4]; exact Nat.le_trans (Nat.min_le_left _ _) z1, acc.toList, c4, rv4, by rw [hS4]⟩
              · rw [upd_ne hb] at q
                exact (I4.hok b u q).stay (fun _ _ _ z => z) (fun d z => by rw [upd_ne (ne_of_none z hSn)]; exact z) fun d xs z => by rw [upd_ne (ne_of_none z hSn)]; exact z
            · rw [List.mem_singleton.mp hb]
              exact ⟨fS.2.2.2.1, fS.2.1, fS.2.2.2.2.1, fS.2.2.2.2.2⟩
          · exact (fp4 s2.heap.objs.size (by simp)).1
          · obtain ⟨q1, x, y, q2, q3, q4⟩ := pr4.at_ j t e
            exact ⟨q1, x, y, q2, q3, upd_old (fp4 s2.heap.objs.size (by simp)).1 q4⟩
        · have hd' : d = s1.heap.objs.size + 4 ∨ d = s1.heap.objs.size + 3 ∨ d = s1.heap.objs.size ∨ d = s1.heap.objs.size + 1 ∨ d = s2.heap.objs.size := by simpa using hd
          rcases hd' with q | q | q | q | q
          · rw [q]; exact Nat.le_add_right _ _
          · rw [q]; exact Nat.le_add_right _ _
          · rw [q]; exact Nat.le_refl _
          · rw [q]; exact Nat.le_add_right _ _
          · rw [q, SN2]; exact Nat.le_add_right _ _
      simp only [Bool.true_or, if_true]
      refine wpAny_bind (wpAny_rule ?_)
      refine wpAny_bind ?_
      show wpAny _ _ (updateSeq s2.heap.objs.size (·.push .none) >>= fun _ => updateSeq s2.heap.objs.size (·.pop)) _ _ _
      refine wpAny_bind (wpAny_updateSeq hS2 rfl ?_)
      have hS3 := Heap.get?_update_self (Obj.mapSeq (·.push Value.none)) hS2 rfl
      refine wpAny_updateSeq (hz := by seq_fits) hS3 rfl ?_
      have hS4 := Heap.get?_update_self (Obj.mapSeq (·.pop)) hS3 rfl
      have k4 := up _ (Obj.mapSeq (·.pop)) (up _ (Obj.mapSeq (·.push Value.none)) k2)
      exact wpAny_pure ⟨plainId_quiet F.plain_extend_loop _, key _ _ k4 hS4⟩
end
theorem pe_listZipK (K : PySem.W.Frag) {X : Cx} {e e2 : Expr} {ta : TA} {p pos p2 pos2 : Pos} (hc : X.calm = true) (hg : Gl X "list") (hm : X.mg "list" = none) (hgz : Gl X "zip") (hmz : X.mg "zip" = none) (ha : PA X [e, e2] ta) (hK : X.K = K := by rfl)
    (hs : starEach [e, e2] X.env = (false, eval e X.env) :: starEach [e2] X.env := by rfl) (hpl : (backTo pos2 (starEach [e2] X.env)).any (·.1) = false := by rfl)
    (na : starEach [.Call (.Name "zip" p2) [e, e2] [] pos2] X.env = (false, eval (.Call (.Name "zip" p2) [e, e2] [] pos2) X.env) :: starEach [] X.env := by rfl) : PE X (.Call (.Name "list" p) [.Call (.Name "zip" p2) [e, e2] [] pos2] [] pos) (tListZip K ta) :=
  hK ▸ pe_listZip hc hg hm hgz hmz ha hs hpl na
section
variable {K : PySem.W.Frag} {σ : L2.St} {H : Hp} {Q : VK} {ta : TA}
theorem r_lzip (h : ta σ H fun vs H1 => ∃ (a b : Addr) (xs ys : List V), vs = [.ref a, .ref b] ∧ SqL K H1 a xs ∧ SqL K H1 b ys ∧
  ∀ (ts : List Addr) (H2 : Hp) (p : Addr), Same H1 H2 → Prs H1 H2 ts xs ys → ts.length = min xs.length ys.length → H1 p = none → H2 p = some (.lst (ts.map V.ref)) → Q (.ref p) H2) : tListZip K ta σ H Q := h
theorem r_listG {tg : TGen} (h : tg σ H fun out H2 => ∀ p, H2 p = none → Q (.ref p) (upd H2 p (.lst out))) : tListG tg σ H Q := h
theorem r_callGn {sp : SpG} {dvs : List V} {E : XK} {cont : List V → Hp → Prop} (h : ta σ H fun vs H1 => sp (vs ++ dvs) H1 cont E) : tCallG sp dvs E ta σ H cont := h
end
end Xk
local macro_rules | `(tactic| fail "one") => `(tactic| with_reducible first | refine Xk.r_lzip ?_ | refine Xk.r_listG ?_ | refine Xk.r_callGn ?_)

set_option Elab.async false
set_option linter.all false
set_option maxRecDepth 100000
namespace Xk
open PySem PySem.Spec PyProof.Rows L2
/-- a new object; the heap behind it is any that keeps all and has it -/
def New (Q : VK) (H : Hp) (o : HO) : Prop := ∀ p, H p = none → Q (.ref p) (upd H p o)
section
variable {K : PySem.W.Frag} {σ : L2.St} {H : Hp} {Q : VK} {o : HO} {tA : TA} {te : TE} {p b : Addr} {xs ys : List V} {ns ms : List Int}
theorem new_ (h : ∀ (p : Addr) (H' : Hp), H p = none → Same H H' → H' p = some o → Q (.ref p) H') : New Q H o := fun p np => h p _ np (same_new np) upd_same
theorem n_lst (h : tA σ H fun xs H1 => xs.length ≤ sizeLine ∧ New Q H1 (.lst xs)) : tLst tA σ H Q := h
theorem n_tup (h : tA σ H fun xs H1 => xs.length ≤ sizeLine ∧ New Q H1 (.tup xs)) : tTup tA σ H Q := h
theorem n_slL {lo hi : Option Int} (h : SqL K H p xs) (q : New Q H (.lst (cutV xs lo hi))) : rSlL K (.ref p) lo hi H Q := ⟨p, xs, rfl, h, q⟩
theorem n_slF {z : Int} {a : Nat} (h : SqL K H p (ns.map V.int)) (e : z = (a : Int)) (q : New Q H (.lst ((ns.drop a).map V.int))) : rSlL K (.ref p) (some z) none H Q :=
  n_slL h (by rw [cut_from e, ← List.map_drop]; exact q)
theorem n_slT {z : Int} {a : Nat} (h : SqL K H p (ns.map V.int)) (e : z = (a : Int)) (q : New Q H (.lst ((ns.take a).map V.int))) : rSlL K (.ref p) none (some z) H Q :=
  n_slL h (by rw [cut_to e, ← List.map_take]; exact q)
theorem n_slM {z y : Int} {a c : Nat} (h : SqL K H p (ns.map V.int)) (e : z = (a : Int)) (g : y = (c : Int)) (q : New Q H (.lst (((ns.drop a).take (c - a)).map V.int))) : rSlL K (.ref p) (some z) (some y) H Q :=
  n_slL h (by rw [cut_any e g, ← List.map_drop, ← List.map_take]; exact q)
theorem n_listOf (h : SqL K H p xs) (q : New Q H (.lst xs)) : rListOf K [.ref p] H Q := ⟨p, xs, rfl, .inl h, q⟩
theorem n_lrg {tr : L2.St → Hp → (Int → Int → Hp → Prop) → Prop} (h : tr σ H fun a b H1 => RgOk a b ∧ New Q H1 (.lst (rgV a b))) : tLstRg tr σ H Q := h
theorem n_revL (h : te σ H fun x H1 => ∃ a xs, x = .ref a ∧ SqL K H1 a xs ∧ New Q H1 (.lst xs.reverse)) : tRevL K te σ H Q := h
theorem n_cat (h : H p = some (.lst xs)) (g : H b = some (.lst ys)) (hz : xs.length + ys.length ≤ sizeLine) (q : New Q H (.lst (xs ++ ys))) : rCat (.ref p) (.ref b) H Q := ⟨p, b, xs, ys, rfl, rfl, h, g, hz, q⟩
theorem n_catI (h : H p = some (.lst (ns.map V.int))) (g : H b = some (.lst (ms.map V.int))) (hz : ns.length + ms.length ≤ 16777216) (q : New Q H (.lst ((ns ++ ms).map V.int))) : rCat (.ref p) (.ref b) H Q :=
  n_cat h g (by rw [List.length_map, List.length_map]; exact hz) (by rw [← List.map_append]; exact q)
theorem s_trans {H0 H1 H2 : Hp} (b : Same H1 H2) (a : Same H0 H1) : Same H0 H2 := a.trans b
theorem s_new {H0 H : Hp} {a : Addr} {o : HO} (np : H a = none) (s : Same H0 H) : Same H0 (upd H a o) := s.trans (same_new np)
theorem sq_new {K : PySem.W.Frag} {H : Hp} {a b : Addr} {o : HO} {xs : List V} (np : H a = none) (s : SqL K H b xs) : SqL K (upd H a o) b xs := (same_new np).seq s
theorem ne_n {H : Hp} {a b : Addr} {u : HO} (n : H b = none) (h : H a = some u) : a ≠ b := ne_of_none h n
theorem ne_n' {H : Hp} {a b : Addr} {u : HO} (n : H a = none) (h : H b = some u) : a ≠ b := (ne_of_none h n).symm
theorem c_chain {r r' : R2} {ta tb tc : TE} {σ : L2.St} {H : Hp} {Q : VK} (h : ta σ H fun x H1 => tb σ H1 fun y H2 => r x y H2 fun z H3 => ∃ k, z = .bl k ∧ (if k = true then tc σ H3 fun w' H4 => r' y w' H4 Q else Q (.bl false) H3)) : tChain r r' ta tb tc σ H Q := h
theorem n_rep {l : Addr} {n : Nat} {zs : List V} (h : H l = some (.lst zs)) (hn : n ≤ 1000000) (hz : zs.length * n ≤ 16777216) (q : New Q H (.lst (List.replicate n zs).flatten)) : rRep (.ref l) (.int (n : Int)) H Q :=
  ⟨l, n, zs, rfl, rfl, h, by omega, by omega, by rw [Int.toNat_natCast]; exact hz, fun p np => by rw [Int.toNat_natCast]; exact q p np⟩
theorem new_map {xs : List Int} {u : List V} (e : u = xs.map V.int) (h : New Q H (.lst (xs.map V.int))) : New Q H (.lst u) := e ▸ h
end
end Xk
/-- what stands in a heap, and what keeps: back along the one step that made each heap -/
local macro_rules | `(tactic| fail "kp") => `(tactic| with_reducible first
  | assumption | exact L2.upd_same | exact L2.Same.refl _
  | (apply Xk.same_to; assumption; fail "kp")
  | (apply L2.Same.seq; assumption; fail "kp")
  | (apply Xk.sx_to; assumption; fail "kpn"; fail "kp")
  | (apply Xk.upd_old; assumption; fail "kp")
  | (apply Xk.upd_to; fail "kpn"; fail "kp")
  | (apply Xk.s_trans; assumption; fail "kp")
  | (apply Xk.s_new; assumption; fail "kp")
  | (apply Xk.sq_new; assumption; fail "kp")
  | (apply Xk.sqT_same; assumption; fail "kp")
  | (apply Xk.sq; fail "kp")
  | (apply Xk.sqT; fail "kp"))
/-- another address -/
local macro_rules | `(tactic| fail "kpn") => `(tactic| with_reducible first | assumption | (apply Ne.symm; assumption) | (apply Xk.ne_n; assumption; fail "kp") | (apply Xk.ne_n'; assumption; fail "kp"))
local macro_rules | `(tactic| fail "ww1") => `(tactic| with_reducible first
  | refine Xk.c_chain ?_ | refine Xk.n_lst ?_ | refine Xk.n_tup ?_ | refine Xk.n_lrg ?_ | refine Xk.n_revL ?_)
local macro_rules | `(tactic| fail "ww2") => `(tactic| first
  | ((with_reducible refine' Xk.r_var ?hv ?_); (case hv => exact rfl))
  | ((with_reducible refine' Xk.r_aug ?hv ?_); (case hv => exact rfl))
  | ((with_reducible refine' Xk.r_ixL ?hv ?hw ?_); (case hv => fail "kp"); (case hw => fail "at"))
  | ((with_reducible refine' Xk.r_setL ?hv ?hw ?_); (case hv => fail "kp"); (case hw => fail "ix"))
  | ((with_reducible refine' Xk.r_gtup ?hv ?hw ?_); (case hv => exact Xk.sqT (by fail "kp")); (case hw => exact rfl))
  | ((with_reducible refine' ⟨Xk.ty_list (K := _) (xs := _) ?hv, ?_⟩); (case hv => fail "kp"))
  | ((with_reducible refine' Xk.r_append ?hv ?hw ?_); (case hv => fail "kp"); (case hw => fail "sd"))
  | ((with_reducible refine' Xk.r_I (C := fun _ j => 0 < j) ?hv ?_); (case hv => (first | omega | (show (0 : Int) < _; omega) | decide)))
  | ((with_reducible refine' Xk.r_len ?hv ?_); (case hv => fail "kp"))
  | ((with_reducible refine' Xk.n_listOf ?hv ?_); (case hv => fail "kp"))
  | ((with_reducible refine' Xk.r_I (C := Xk.CPowW) ?hv ?_); (case hv => exact ⟨by decide, by decide⟩))
  | (with_reducible refine ⟨Xk.szL (by with_unfolding_all rfl), ?_⟩)
  | ((with_reducible refine' ⟨_, _, rfl, ?hv, ?_⟩); (case hv => ((with_reducible show L2.SqL _ _ _ _); fail "kp")))
  | (with_reducible refine ⟨_, _, _, _, rfl, Xk.sq (by fail "kp"), Xk.sq (by fail "kp"), ?_⟩)
  | ((with_reducible refine' ⟨⟨_, ?hv⟩, ?_⟩); (case hv => ((with_reducible show L2.SqL _ _ _ _); fail "kp")))
  | (with_reducible refine Or.inl ⟨_, rfl, ?_⟩) | (with_reducible refine Or.inr ⟨_, rfl, ?_⟩)
  | (with_reducible refine ⟨_, _, rfl, rfl, ?_⟩) | (with_reducible refine ⟨_, rfl, ?_⟩) | (with_reducible refine ⟨_, _, rfl, ?_⟩))
local macro_rules | `(tactic| fail "ww") => `(tactic| repeat (first | fail "ww1" | fail "one" | fail "ww2"))

set_option Elab.async false
set_option linter.all false
set_option maxRecDepth 100000
namespace Xk
open PySem PySem.Spec PyProof.Rows L2 GenW
/-! ### enumerate(xs, start=c) -/
/-- the list at a, each item with its number from c on in a new pair -/
def Iteo (K : PySem.W.Frag) (a : Addr) (c : Int) : It where
  go i H := ∃ (xs : List V) (x : V), SqL K H a xs ∧ xs[i]? = some x
  yld i H v H' := ∃ T x, v = .ref T ∧ H T = none ∧ H' = upd H T (.tup [.int (c + (i : Nat)), x]) ∧ ∀ xs, SqL K H a xs → xs[i]? = some x
  stop i H := ∃ xs : List V, SqL K H a xs ∧ xs.length = i
theorem turn_enumS {P : Program} {w : World} {K : PySem.W.Frag} {elts : List Expr} {kk : Nat} {tpos : Pos} (a e it : Addr) (c : Int) :
    Turn P w K (.Tuple elts kk tpos) (Iteo K a c) [e, it] e (fun i h => (∃ was, IsEnum h e it (c + ((i : Nat) : Int)) was) ∧ h.IsListIter it a i ∧ e ≠ it) where
  mem := List.mem_cons_self
  obj := by
    rintro i h ⟨⟨was, he⟩, ⟨o, ho, _, hd⟩, _⟩ b hb
    rcases List.mem_cons.mp hb with z | z
    · subst z; exact ⟨_, he, fun v q => nomatch q⟩
    · rw [List.mem_singleton.mp z]; exact ⟨o, ho, fun v q => by rw [hd] at q; cases q⟩
  keep := by
    rintro i h h' ⟨⟨was, he⟩, hi, hne⟩ k
    exact ⟨⟨was, k e (by simp) _ he⟩, hi.at fun o q => k it (by simp) o q, hne⟩
  item := by
    intro X hP hw hK hc i pins s σ H E I hf st hg
    subst hP hw hK
    obtain ⟨⟨was, he⟩, hit, hne⟩ := st
    obtain ⟨xs, x, hq, hx⟩ := hg
    obtain ⟨its, rv, p, _⟩ := I.list hq
    obtain ⟨u, hu, ru⟩ := rv.get hx
    have pl := p.isList
    have hel : e < s.heap.objs.size := Heap.lt_size he
    have hil : it < s.heap.objs.size := by obtain ⟨_, q, _⟩ := hit; exact Heap.lt_size q
    have hai : a ≠ it := by
      intro z; subst z
      obtain ⟨o1, e1, c1, _⟩ := hit
      obtain ⟨o2, e2, c2, _⟩ := pl
      rw [e1] at e2; cases e2
      rw [c1] at c2
      exact absurd (Value.type.inj c2) (by decide)
    have hea : e ≠ a := by
      intro z; subst z
      obtain ⟨o2, e2, c2, _⟩ := pl
      rw [he] at e2; cases e2
      exact absurd (Value.type.inj c2) (by decide)
    have hul : its.toArray[i]? = some u := by simpa using hu
    have hsz : i < its.toArray.size := (Array.getElem?_eq_some_iff.mp hul).1
    refine wpAny_pyNext_enum_itemC (Draws.list (prog := X.prog) (w := X.w) (A := X.A.in1) (I.ok.hd hc) it a hai its.toArray) he ⟨hit, pl⟩ hsz hne (by simp [hne, hea]) fun y h' tk hy ho st' hT hz hk => ?_
    have ey : y = u := by
      have hy' : its.toArray[i]? = some y := hy
      rw [hul] at hy'; exact (Option.some.inj hy').symm
    subst ey
    refine ⟨_, rfl, wpAny_letOwnedTupleGo_enum (s := { s with heap := h', toks := tk + 1 }) ho fun h'' he' sb => ?_⟩
    have hT2 := (sb.2 _ (Nat.ne_of_gt hel)).trans hT
    have new : ObjOk X.prog X.w (upd H s.heap.objs.size (.tup [.int (c + (i : Nat)), x])) h'' s.heap.objs.size (.tup [.int (c + (i : Nat)), x]) :=
      ⟨szL rfl, [.int (c + (i : Nat)) tk, y], .cons ⟨_, rfl⟩ (.cons ru .nil), ⟨_, hT2, rfl, _, rfl⟩⟩
    have I1 : Inv X pins σ (upd H s.heap.objs.size (.tup [.int (c + (i : Nat)), x])) { s with heap := h'', toks := tk + 1 } := by
      refine I.turnedNew (ch := [e, it]) (fun b ob hb q => ?_) hf (Nat.le_refl _) new
      have b1 : b ≠ e := fun z => hb (by simp [z])
      have b2 : b ≠ it := fun z => hb (by simp [z])
      exact (sb.2 b b1).trans (hk b ob b1 b2 q)
    refine ⟨.ref s.heap.objs.size, _, I1, rfl, ⟨_, x, rfl, I.hok.fresh (Nat.le_refl _), rfl, fun ys hy => by rw [I.list_inj hy hq]; exact hx⟩, ⟨⟨y, ?_⟩, st'.1.at fun o q => (sb.2 it (Ne.symm hne)).trans q, hne⟩, fun b hb => ?_⟩
    · rw [show c + ((i + 1 : Nat) : Int) = c + (i : Int) + 1 by omega]; exact he'
    · have hb' : b < s.heap.objs.size := by
        rcases List.mem_cons.mp hb with z | z
        · rw [z]; exact hel
        · rw [List.mem_singleton.mp z]; exact hil
      rw [upd_ne (Nat.ne_of_lt hb')]
      exact (hf b hb).1
  done := by
    intro X hP hw hK hc i pins s σ H E I hf st hg
    subst hP hw hK
    obtain ⟨⟨was, he⟩, hit, hne⟩ := st
    obtain ⟨xs, hq, hx⟩ := hg
    obtain ⟨its, rv, p, _⟩ := I.list hq
    obtain ⟨f0, f1, f2, f3, f4, f5⟩ := hf it (by simp)
    have hl : its.toArray.size = i := by have := rv.length; simp; omega
    have pl := p.isList
    have hai : a ≠ it := by
      intro z; subst z
      obtain ⟨o1, e1, c1, _⟩ := hit
      obtain ⟨o2, e2, c2, _⟩ := pl
      rw [e1] at e2; cases e2
      rw [c1] at c2
      exact absurd (Value.type.inj c2) (by decide)
    refine wpAny_pyNext_enum_endD (Draws.list (prog := X.prog) (w := X.w) (A := X.A.in1) (I.ok.hd hc) it a hai its.toArray) he ⟨by rw [hl]; exact hit, pl⟩ fun h' eb => ⟨rfl, I.turned (t' := s.toks) (fun b o hb q => eb b o hb q) f0 f1 f3 f4 f5⟩
  self := fun A i s Q E st h => let ⟨⟨_, he⟩, _⟩ := st; wpAny_pyIter_enum he h
/-- what a walk over enumerate(xs, start=c) asks -/
def iEnumS (K : PySem.W.Frag) (ta tk : TA) : TI := fun σ H R => ta σ H fun vs H1 => tk σ H1 fun zs H2 => ∃ (a : Addr) (xs : List V) (c : Int), vs = [.ref a] ∧ zs = [.int c] ∧ SqL K H2 a xs ∧ -1000000 ≤ c ∧ c ≤ 1000000 ∧ R (Iteo K a c) H2
theorem pi_enumS {X : Cx} {e : Expr} {kws : List Keyword} {ta tk : TA} {p pos tpos : Pos} {elts : List Expr} {kk : Nat} (hg : Gl X "enumerate") (hm : X.mg "enumerate" = none) (ha : PA X [e] ta) (hk : PK X kws tk)
    (hall : (backToKw pos (keywordEach kws X.env)).all (·.1.isSome) = true := by rfl) (hks : (backToKw pos (keywordEach kws X.env)).filterMap (·.1) = [Str.ofString "start"] := by rfl)
    (hpl : ((backTo pos (starEach [e] X.env)).any (·.1) || (backToKw pos (keywordEach kws X.env)).any (·.1.isNone)) = false := by rfl) (hs : backTo pos (starEach [e] X.env) = [(false, eval e X.env)] := by rfl) :
    PI X (.Tuple elts kk tpos) (.Call (.Name "enumerate" p) [e] kws pos) (iEnumS X.K ta tk) := by
  refine ⟨fun pins s σ H R I h => ?_⟩
  refine wpAny_Call_Name_kw (ld_blt I hg hm boot_enumerate ?_)
  have ha' := fun Q hQ => ha.run pos pins s σ H Q I hQ
  rw [hs] at ha' hpl ⊢
  refine PySem.W.callWith_of (P := fun _ => True) hpl (fun h _ => ⟨.machine, .inr (.inl rfl), .of_pure rfl⟩) (evalArgs_kwB hall (thn (ha' _ h) fun us s1 ⟨vs, H1, I1, r1, q1⟩ => thn (hk.run pos pins s1 σ H1 _ I1 q1) fun ws s2 ⟨zs, H2, I2, r2, q2⟩ => ⟨trivial, ?_⟩))
  rw [hks]
  obtain ⟨a, xs, c, ex, ez, hq, c0, c1, q⟩ := q2
  subst ex ez
  cases r1 with
  | cons r rr =>
    cases rr
    cases r
    cases r2 with
    | cons r' rr' =>
      cases rr'
      obtain ⟨t, rfl⟩ := r'
      obtain ⟨its, rv, p', hz⟩ := I2.list hq
      refine enum_begins_start (begins_list a its.toArray) p'.isList (by omega) (by omega) fun h' he ho hsz hkp => wpAny_pyIter_enum he ?_
      have I3 : Inv X pins σ H2 { s2 with heap := h' } := I2.kept (t' := s2.toks) hkp
      refine ⟨s2.heap.objs.size + 1, [s2.heap.objs.size + 1, s2.heap.objs.size], _, _, H2, rfl, I3, turn_enumS a _ _ c, ⟨⟨.none, by simpa using he⟩, ⟨_, ho, rfl, rfl⟩, Nat.succ_ne_self _⟩, fun b hb => ?_, q⟩
      have hle : s2.heap.objs.size ≤ b := by
        rcases List.mem_cons.mp hb with z | z
        · rw [z]; exact Nat.le_add_right _ _
        · rw [List.mem_singleton.mp z]; exact Nat.le_refl _
      exact I2.fpOk hle (I2.hok.fresh hle)
theorem pi_enumSK {X : Cx} (K : PySem.W.Frag) {e : Expr} {kws : List Keyword} {ta tk : TA} {p pos tpos : Pos} {elts : List Expr} {kk : Nat} (hg : Gl X "enumerate") (hm : X.mg "enumerate" = none) (ha : PA X [e] ta) (hk : PK X kws tk) (hK : X.K = K := by rfl)
    (hall : (backToKw pos (keywordEach kws X.env)).all (·.1.isSome) = true := by rfl) (hks : (backToKw pos (keywordEach kws X.env)).filterMap (·.1) = [Str.ofString "start"] := by rfl)
    (hpl : ((backTo pos (starEach [e] X.env)).any (·.1) || (backToKw pos (keywordEach kws X.env)).any (·.1.isNone)) = false := by rfl) (hs : backTo pos (starEach [e] X.env) = [(false, eval e X.env)] := by rfl) :
    PI X (.Tuple elts kk tpos) (.Call (.Name "enumerate" p) [e] kws pos) (iEnumS K ta tk) := hK ▸ pi_enumS hg hm ha hk hall hks hpl hs
section
variable {K : PySem.W.Frag} {σ : L2.St} {H : Hp} {ta tk : TA} {R : L2.It → Hp → Prop} {a : Addr} {xs : List V} {c : Int}
theorem r_iEnumS (h : ta σ H fun vs H1 => tk σ H1 fun zs H2 => ∃ (a : Addr) (xs : List V) (c : Int), vs = [.ref a] ∧ zs = [.int c] ∧ SqL K H2 a xs ∧ -1000000 ≤ c ∧ c ≤ 1000000 ∧ R (Iteo K a c) H2) : iEnumS K ta tk σ H R := h
theorem walk_enumS : Walk (Iteo K a c) xs.length (fun H => SqL K H a xs) (YPair (fun i => some (.int (c + (i : Nat)))) (fun i => xs[i]?)) :=
  ⟨fun i _ hi q => ⟨xs, xs[i], q, by simp [hi]⟩, fun _ q => ⟨xs, q, rfl⟩, fun i H v H' _ q ⟨T, x, e1, e2, e3, e4⟩ => ⟨T, _, x, e1, e2, e3, rfl, e4 xs q⟩⟩
end
end Xk
local macro_rules | `(tactic| fail "ww1") => `(tactic| with_reducible refine Xk.r_iEnumS ?_)

set_option Elab.async false
set_option linter.all false
set_option maxRecDepth 100000
namespace Xk
open PySem PySem.Spec PyProof.Rows L2 GenW
/-! ### enumerate(zip(xs, ys), start=c), the pair unpacked within -/
section
variable {X : Cx} {A : Around} {e z TI TO i1 i2 l1 l2 : Addr} {xs ys : Array Value} {E : Value → Shared → Prop}
/-- the cells of a zip amid its turns; the pair that it gave out last may be alive or gone -/
def ZCell (z TI TO i1 i2 l1 l2 : Addr) (i : Nat) (h : Heap) : Prop :=
  IsPair h TI (.ref i1) (.ref i2) ∧ h.IsListIter i1 l1 i ∧ h.IsListIter i2 l2 i ∧ (∃ a b, IsPair h TO a b) ∧ (IsZip h z TI TO .none ∨ ∃ T f, IsZipHeld h z TI TO T f)
theorem alive_or {a : Addr} {s : Shared} {Q : Option Obj → Shared → Prop} (h : Q (s.heap.get? a) s) : wpAny (model X.prog X.w) A (loadIfAlive a) Q E s := fun _ _ _ => h
theorem free_dead {T : Addr} {f : Bool} {s : Shared} {Q : Bool → Shared → Prop} (hz : IsZipHeld s.heap z TI TO T f) (hT : s.heap.get? T = none) (h : Q true s) : wpAny (model X.prog X.w) A (Builtin.SmallTypes.ownedTupleIsFree (.ref z)) Q E s := by
  unfold Builtin.SmallTypes.ownedTupleIsFree
  apply wpAny_bind
  refine wpAny_field hz rfl (x := rawInt T) rfl ?_
  show wpAny _ A (loadIfAlive ((T : Int).toNat) >>= _) _ _ _
  rw [Int.toNat_natCast]
  apply wpAny_bind
  refine alive_or (X := X) ?_
  rw [hT]
  exact wpAny_pure h
theorem zip_next_dead {T : Addr} {f : Bool} {k1 k2 : Nat} {s : Shared} {x y a b : Value} {Q : Value → Shared → Prop} (D : ZipApart z TI TO i1 i2 l1 l2) (hz : IsZipHeld s.heap z TI TO T f) (hT : s.heap.get? T = none) (hTI : IsPair s.heap TI (.ref i1) (.ref i2)) (hTO : IsPair s.heap TO a b)
    (h1 : s.heap.IsListIter i1 l1 k1) (h2 : s.heap.IsListIter i2 l2 k2) (hl1 : s.heap.IsList l1 xs) (hl2 : s.heap.IsList l2 ys) (hx : xs[k1]? = some x) (hy : ys[k2]? = some y)
    (hQ : ∀ h', IsZip h' z TI TO (rawInt s.heap.objs.size) → IsPair h' TO x y → h'.IsListIter i1 l1 (k1 + 1) → h'.IsListIter i2 l2 (k2 + 1) → IsPair h' s.heap.objs.size x y → h'.objs.size = s.heap.objs.size + 1 → (∀ c o, c ≠ z → c ≠ TO → c ≠ i1 → c ≠ i2 → s.heap.get? c = some o → h'.get? c = some o) → Q (.ref s.heap.objs.size) { s with heap := h' }) :
    wpAny (model X.prog X.w) A (Builtin.«zip.__next__» ⟨[.ref z], []⟩) (fun fin s' => ∃ v, fin = .done (.ret v) ∧ Q v s') E s := by
  show wpAny _ A (field (.ref z) 2 >>= _) _ _ _
  apply wpAny_bind
  refine wpAny_field hz rfl (x := .bool false) rfl ?_
  show wpAny _ A (field (.ref z) 3 >>= _) _ _ _
  apply wpAny_bind
  refine wpAny_field hz rfl (x := .ref TI) rfl ?_
  apply wpAny_bind
  refine wpAny_seqItems hTI rfl ?_
  show wpAny _ A (Builtin.SmallTypes.ownedTupleIsFree (.ref z) >>= _) _ _ _
  apply wpAny_bind
  refine free_dead (X := X) hz hT ?_
  simp only [if_true]
  apply wpAny_bind
  apply wpAny_rule
  apply wpAny_bind
  refine wpAny_field hz rfl (x := .ref TO) rfl ?_
  apply wpAny_bind
  refine wpAny_setField_rec hz (by simp) fun g1 e1 b1 => ?_
  apply wpAny_bind
  simp only [List.zipIdx_cons, List.zipIdx_nil, List.forIn_cons, List.forIn_nil]
  apply wpAny_bind
  apply wpAny_bind
  apply wpAny_onRaise
  show wpAny _ A (Builtin.SmallTypes.nextOf (.ref i1) >>= _) _ _ _
  apply wpAny_bind
  refine wpAny_nextOf_list_item (h1.extBut b1.extBut D.i1z) (hl1.extBut b1.extBut D.l1z) hx fun g2 it2 b2 => wpAny_pure ?_
  have t2 : IsPair g2 TO a b := b2.extBut _ _ D.TOi1 (b1.extBut _ _ D.TOz hTO)
  apply wpAny_bind
  refine wpAny_seqItems t2 rfl ?_
  apply wpAny_bind
  refine wpAny_updateSeq_pair t2 fun g3 t3 b3 => ?_
  replace t3 : IsPair g3 TO x b := t3
  apply wpAny_bind
  apply wpAny_letGo
  apply wpAny_pure
  apply wpAny_bind
  apply wpAny_bind
  apply wpAny_onRaise
  show wpAny _ A (Builtin.SmallTypes.nextOf (.ref i2) >>= _) _ _ _
  apply wpAny_bind
  have j2 := ((h2.extBut b1.extBut D.i2z).extBut b2.extBut D.i12.symm).extBut b3.extBut D.TOi2.symm
  have m2 := ((hl2.extBut b1.extBut D.l2z).extBut b2.extBut D.l2i1).extBut b3.extBut D.l2TO
  refine wpAny_nextOf_list_item j2 m2 hy fun g4 it4 b4 => wpAny_pure ?_
  have t4 : IsPair g4 TO x b := b4.extBut _ _ D.TOi2 t3
  apply wpAny_bind
  refine wpAny_seqItems t4 rfl ?_
  apply wpAny_bind
  refine wpAny_updateSeq_pair t4 fun g5 t5 b5 => ?_
  replace t5 : IsPair g5 TO x y := t5
  apply wpAny_bind
  apply wpAny_letGo
  apply wpAny_pure
  apply wpAny_pure
  apply wpAny_bind
  refine wpAny_seqItems t5 rfl ?_
  apply wpAny_bind
  refine wpAny_newTuple ?_
  have sz : g5.objs.size = s.heap.objs.size := by rw [b5.1, b4.1, b3.1, b2.1, b1.1]
  have e5 := b5.extBut _ _ D.TOz.symm (b4.extBut _ _ D.i2z.symm (b3.extBut _ _ D.TOz.symm (b2.extBut _ _ D.i1z.symm e1)))
  have k5 : ∀ c o, c ≠ z → c ≠ TO → c ≠ i1 → c ≠ i2 → s.heap.get? c = some o → g5.get? c = some o := fun c o c1 c2 c3 c4 q =>
    b5.extBut _ _ c2 (b4.extBut _ _ c4 (b3.extBut _ _ c2 (b2.extBut _ _ c3 (b1.extBut _ _ c1 q))))
  have it5 : g5.IsListIter i1 l1 (k1 + 1) := ((it2.extBut b3.extBut D.TOi1.symm).extBut b4.extBut D.i12).extBut b5.extBut D.TOi1.symm
  have jt5 : g5.IsListIter i2 l2 (k2 + 1) := it4.extBut b5.extBut D.TOi2.symm
  have zl : z < g5.objs.size := Heap.lt_size e5
  show wpAny _ A (Builtin.SmallTypes.ownedTupleHandOut (.ref z) (.ref g5.objs.size) >>= _) _ _ _
  apply wpAny_bind
  unfold Builtin.SmallTypes.ownedTupleHandOut
  have e6 := Heap.get?_push_of_some { cls := .type "tuple", data := .seq #[x, y] } e5
  apply wpAny_bind
  refine wpAny_setField_rec e6 (by simp) fun g7 e7 b7 => ?_
  refine wpAny_setField_rec e7 (by simp) fun g8 e8 b8 => ?_
  have ez : IsZip g8 z TI TO (rawInt g5.objs.size) := e8
  have up : ∀ c o, c ≠ z → g5.get? c = some o → g8.get? c = some o := fun c o c1 q => b8.extBut _ _ c1 (b7.extBut _ _ c1 (Heap.get?_push_of_some _ q))
  have p8 : IsPair g8 g5.objs.size x y := b8.extBut _ _ (Nat.ne_of_gt zl) (b7.extBut _ _ (Nat.ne_of_gt zl) (Heap.get?_push_size _ rfl))
  have s8 : g8.objs.size = g5.objs.size + 1 := by rw [b8.1, b7.1, Heap.size_push]
  rw [sz] at ez p8 s8
  apply wpAny_pure
  refine ⟨_, rfl, ?_⟩
  show Q (.ref g5.objs.size) _
  rw [sz]
  exact hQ g8 ez (up _ _ D.TOz t5) (it5.at fun o q => up _ o D.i1z q) (jt5.at fun o q => up _ o D.i2z q) p8 s8 fun c o c1 c2 c3 c4 q => up c o c1 (k5 c o c1 c2 c3 c4 q)
theorem zip_end_dead {T : Addr} {f : Bool} {k1 k2 : Nat} {s : Shared} {a b : Value} {Q : PySem.Fin → Shared → Prop} (hh : A.handled = none) (D : ZipApart z TI TO i1 i2 l1 l2) (hz : IsZipHeld s.heap z TI TO T f) (hT : s.heap.get? T = none) (hTI : IsPair s.heap TI (.ref i1) (.ref i2)) (hTO : IsPair s.heap TO a b)
    (h1 : s.heap.IsListIter i1 l1 k1) (h2 : s.heap.IsListIter i2 l2 k2) (hl1 : s.heap.IsList l1 xs) (hl2 : s.heap.IsList l2 ys) (hend : xs[k1]? = none ∨ ys[k2]? = none)
    (hE : ∀ h' e, (∀ c o, c ≠ z → c ≠ TO → c ≠ i1 → c ≠ i2 → s.heap.get? c = some o → h'.get? c = some o) → (∃ o, h'.get? e = some o ∧ o.cls = .type "StopIteration") → E (.ref e) { s with heap := h' }) :
    wpAny (model X.prog X.w) A (Builtin.«zip.__next__» ⟨[.ref z], []⟩) Q E s := by
  show wpAny _ A (field (.ref z) 2 >>= _) _ _ _
  apply wpAny_bind
  refine wpAny_field hz rfl (x := .bool false) rfl ?_
  show wpAny _ A (field (.ref z) 3 >>= _) _ _ _
  apply wpAny_bind
  refine wpAny_field hz rfl (x := .ref TI) rfl ?_
  apply wpAny_bind
  refine wpAny_seqItems hTI rfl ?_
  show wpAny _ A (Builtin.SmallTypes.ownedTupleIsFree (.ref z) >>= _) _ _ _
  apply wpAny_bind
  refine free_dead (X := X) hz hT ?_
  simp only [if_true]
  apply wpAny_bind
  apply wpAny_rule
  apply wpAny_bind
  refine wpAny_field hz rfl (x := .ref TO) rfl ?_
  apply wpAny_bind
  refine wpAny_setField_rec hz (by simp) fun g1 e1 b1 => ?_
  apply wpAny_bind
  simp only [List.zipIdx_cons, List.zipIdx_nil, List.forIn_cons, List.forIn_nil]
  apply wpAny_bind
  apply wpAny_bind
  apply wpAny_onRaise
  show wpAny _ A (Builtin.SmallTypes.nextOf (.ref i1) >>= _) _ _ _
  apply wpAny_bind
  cases hx : xs[k1]? with
  | none =>
    refine wpAny_nextOf_list_end hh (h1.extBut b1.extBut D.i1z) (hl1.extBut b1.extBut D.l1z) hx fun g2 ex b2 ⟨ox, ho, hc⟩ => ?_
    have e2 := b2 _ _ D.i1z.symm e1
    have ne : ex ≠ z := fun q => by subst q; rw [e2] at ho; cases ho; simp at hc
    exact wpAny_setField_rec e2 (by simp) fun g3 _ b3 => hE g3 ex (fun c o c1 _ c3 _ q => b3.extBut _ _ c1 (b2 _ _ c3 (b1.extBut _ _ c1 q))) ⟨ox, b3.extBut _ _ ne ho, hc⟩
  | some x =>
    have hy : ys[k2]? = none := hend.resolve_left (by rw [hx]; exact fun q => nomatch q)
    refine wpAny_nextOf_list_item (h1.extBut b1.extBut D.i1z) (hl1.extBut b1.extBut D.l1z) hx fun g2 it2 b2 => wpAny_pure ?_
    have t2 : IsPair g2 TO a b := b2.extBut _ _ D.TOi1 (b1.extBut _ _ D.TOz hTO)
    apply wpAny_bind
    refine wpAny_seqItems t2 rfl ?_
    apply wpAny_bind
    refine wpAny_updateSeq_pair t2 fun g3 t3 b3 => ?_
    apply wpAny_bind
    apply wpAny_letGo
    apply wpAny_pure
    apply wpAny_bind
    apply wpAny_bind
    apply wpAny_onRaise
    show wpAny _ A (Builtin.SmallTypes.nextOf (.ref i2) >>= _) _ _ _
    apply wpAny_bind
    have j2 := ((h2.extBut b1.extBut D.i2z).extBut b2.extBut D.i12.symm).extBut b3.extBut D.TOi2.symm
    have m2 := ((hl2.extBut b1.extBut D.l2z).extBut b2.extBut D.l2i1).extBut b3.extBut D.l2TO
    refine wpAny_nextOf_list_end hh j2 m2 hy fun g4 ex b4 ⟨ox, ho, hc⟩ => ?_
    have e4 := b4 _ _ D.i2z.symm (b3.extBut _ _ D.TOz.symm (b2.extBut _ _ D.i1z.symm e1))
    have ne : ex ≠ z := fun q => by subst q; rw [e4] at ho; cases ho; simp at hc
    exact wpAny_setField_rec e4 (by simp) fun g5 _ b5 => hE g5 ex (fun c o c1 c2 c3 c4 q => b5.extBut _ _ c1 (b4 _ _ c4 (b3.extBut _ _ c2 (b2.extBut _ _ c3 (b1.extBut _ _ c1 q))))) ⟨ox, b5.extBut _ _ ne ho, hc⟩
theorem zip_nextOf {i : Nat} {s : Shared} {x y : Value} {Q : Value → Shared → Prop} (D : ZipApart z TI TO i1 i2 l1 l2) (st : ZCell z TI TO i1 i2 l1 l2 i s.heap) (hl1 : s.heap.IsList l1 xs) (hl2 : s.heap.IsList l2 ys) (hx : xs[i]? = some x) (hy : ys[i]? = some y)
    (hQ : ∀ h', (∀ b o, b ∉ [z, TO, i1, i2] → s.heap.get? b = some o → h'.get? b = some o) → IsPair h' s.heap.objs.size x y → h'.objs.size = s.heap.objs.size + 1 → ZCell z TI TO i1 i2 l1 l2 (i + 1) h' → Q (.ref s.heap.objs.size) { s with heap := h' }) :
    wpAny (model X.prog X.w) A (Builtin.SmallTypes.nextOf (.ref z)) Q E s := by
  obtain ⟨hTI, h1, h2, ⟨a, b, hTO⟩, hz⟩ := st
  unfold Builtin.SmallTypes.nextOf
  apply wpAny_bind
  rcases hz with hz | ⟨T, f, hz⟩
  · have ty : s.TypeIs (.ref z) "zip" := ⟨_, hz, rfl⟩
    refine wpAny_callSpecial?_slot (name := Str.ofString "__next__") ty F.slot_zip_next (wpAny_call_entry F.slot_zip_next ty F.entry_zip_next (zip_next_item D hz hTI hTO h1 h2 hl1 hl2 hx hy fun h' a1 a2 a3 a4 a5 a6 hk => wpAny_pure ?_) (F.args_zip_next_1 _))
    exact hQ h' (fun c o hc q => hk c o (fun w => hc (by simp [w])) (fun w => hc (by simp [w])) (fun w => hc (by simp [w])) (fun w => hc (by simp [w])) q) a5 a6 ⟨hk _ _ D.TIz D.TITO D.TIi1 D.TIi2 hTI, a3, a4, ⟨x, y, a2⟩, .inr ⟨s.heap.objs.size, false, a1⟩⟩
  · have ty : s.TypeIs (.ref z) "zip" := ⟨_, hz, rfl⟩
    cases hT : s.heap.get? T with
    | some oT =>
      refine wpAny_callSpecial?_slot (name := Str.ofString "__next__") ty F.slot_zip_next (wpAny_call_entry F.slot_zip_next ty F.entry_zip_next (zip_next_item_held D hz hT hTI h1 h2 hl1 hl2 hx hy fun h' a1 a3 a4 a5 a6 hk => wpAny_pure ?_) (F.args_zip_next_1 _))
      exact hQ h' (fun c o hc q => hk c o (fun w => hc (by simp [w])) (fun w => hc (by simp [w])) (fun w => hc (by simp [w])) q) a5 a6 ⟨hk _ _ D.TIz D.TIi1 D.TIi2 hTI, a3, a4, ⟨a, b, hk _ _ D.TOz D.TOi1 D.TOi2 hTO⟩, .inr ⟨T, true, a1⟩⟩
    | none =>
      refine wpAny_callSpecial?_slot (name := Str.ofString "__next__") ty F.slot_zip_next (wpAny_call_entry F.slot_zip_next ty F.entry_zip_next (zip_next_dead (X := X) D hz hT hTI hTO h1 h2 hl1 hl2 hx hy fun h' a1 a2 a3 a4 a5 a6 hk => wpAny_pure ?_) (F.args_zip_next_1 _))
      exact hQ h' (fun c o hc q => hk c o (fun w => hc (by simp [w])) (fun w => hc (by simp [w])) (fun w => hc (by simp [w])) (fun w => hc (by simp [w])) q) a5 a6 ⟨hk _ _ D.TIz D.TITO D.TIi1 D.TIi2 hTI, a3, a4, ⟨x, y, a2⟩, .inr ⟨s.heap.objs.size, false, a1⟩⟩
theorem ZCell.keep {i : Nat} {h h' : Heap} (st : ZCell z TI TO i1 i2 l1 l2 i h) (k : ∀ b ∈ [z, TI, TO, i1, i2], ∀ o, h.get? b = some o → h'.get? b = some o) : ZCell z TI TO i1 i2 l1 l2 i h' := by
  obtain ⟨hTI, h1, h2, ⟨a, b, hTO⟩, hz⟩ := st
  refine ⟨k TI (by simp) _ hTI, h1.at fun o q => k i1 (by simp) o q, h2.at fun o q => k i2 (by simp) o q, ⟨a, b, k TO (by simp) _ hTO⟩, ?_⟩
  rcases hz with hz | ⟨T, f, hz⟩
  · exact .inl (k z (by simp) _ hz)
  · exact .inr ⟨T, f, k z (by simp) _ hz⟩
/-- one step of the enumerate over a zip: its pair at the new address, the zip's pair just ahead of it -/
theorem enumZ_next {i : Nat} {s : Shared} {x y was : Value} {cnt : Int} {Q : Value → Shared → Prop} (D : ZipApart z TI TO i1 i2 l1 l2) (off : e ∉ [z, TI, TO, i1, i2]) (he : IsEnum s.heap e z cnt was) (st : ZCell z TI TO i1 i2 l1 l2 i s.heap) (hl1 : s.heap.IsList l1 xs) (hl2 : s.heap.IsList l2 ys) (hx : xs[i]? = some x) (hy : ys[i]? = some y)
    (hQ : ∀ h' tk, (∀ b o, b ∉ [e, z, TO, i1, i2] → s.heap.get? b = some o → h'.get? b = some o) → IsPair h' s.heap.objs.size x y →
      h'.get? (s.heap.objs.size + 1) = some { cls := .type "tuple", data := .seq #[.int cnt tk, .ref s.heap.objs.size] } → h'.objs.size = s.heap.objs.size + 2 → IsEnumOut h' e z (cnt + 1) (.ref s.heap.objs.size) (s.heap.objs.size + 1) →
      ZCell z TI TO i1 i2 l1 l2 (i + 1) h' → Q (.ref (s.heap.objs.size + 1)) { s with heap := h', toks := tk + 1 }) :
    wpAny (model X.prog X.w) A (Builtin.«enumerate.__next__» ⟨[.ref e], []⟩) (fun fin s' => ∃ v, fin = .done (.ret v) ∧ Q v s') E s := by
  obtain ⟨g0, gg, gd, gt, go⟩ := s
  have hS : e < g0.objs.size := Heap.lt_size he
  show wpAny _ A (field (.ref e) 2 >>= _) _ _ _
  apply wpAny_bind
  refine wpAny_field he rfl (x := .ref z) rfl ?_
  apply wpAny_bind
  refine zip_nextOf (X := X) (s := ⟨g0, gg, gd, gt, go⟩) D st hl1 hl2 hx hy fun g1 kp1 pr1 sz1 st1 => ?_
  replace kp1 : ∀ b o, b ∉ [z, TO, i1, i2] → g0.get? b = some o → g1.get? b = some o := kp1
  replace pr1 : IsPair g1 g0.objs.size x y := pr1
  replace sz1 : g1.objs.size = g0.objs.size + 1 := sz1
  have n1 : e ∉ [z, TO, i1, i2] := fun w => by
    have w' : e = z ∨ e = TO ∨ e = i1 ∨ e = i2 := by simpa using w
    rcases w' with w | w | w | w <;> exact off (by simp [w])
  replace st1 : ZCell z TI TO i1 i2 l1 l2 (i + 1) g1 := st1
  have he1 : IsEnum g1 e z cnt was := kp1 e _ n1 he
  show wpAny _ A (field (.ref e) 3 >>= _) _ _ _
  apply wpAny_bind
  refine wpAny_field he1 rfl (x := rawInt cnt) rfl ?_
  show wpAny _ A (field (.ref e) 4 >>= _) _ _ _
  apply wpAny_bind
  refine wpAny_field he1 rfl (x := .none) rfl ?_
  show wpAny _ A (mkInt cnt >>= _) _ _ _
  apply wpAny_bind
  refine wpAny_mkInt ?_
  show wpAny _ A (setField (.ref e) 3 (rawInt (cnt + 1)) >>= _) _ _ _
  apply wpAny_bind
  refine wpAny_setField_rec he1 (by simp) fun g2 he2 sb2 => ?_
  replace sb2 : Heap.SameBut e g1 g2 := sb2
  replace he2 : IsEnum g2 e z (cnt + 1) was := he2
  show wpAny _ A (setField (.ref e) 4 .none >>= _) _ _ _
  apply wpAny_bind
  refine wpAny_setField_rec he2 (by simp) fun g3 he3 sb3 => ?_
  replace sb3 : Heap.SameBut e g2 g3 := sb3
  replace he3 : IsEnum g3 e z (cnt + 1) was := he3
  show wpAny _ A (newTuple [.int cnt gt, .ref g0.objs.size] >>= _) _ _ _
  apply wpAny_bind
  refine wpAny_newTuple ?_
  have sz3 : g3.objs.size = g0.objs.size + 1 := by rw [sb3.1, sb2.1, sz1]
  have he4 : IsEnum (g3.push { cls := .type "tuple", data := .seq #[.int cnt gt, .ref g0.objs.size] }) e z (cnt + 1) was := Heap.get?_push_of_some _ he3
  have kp4 : ∀ b o, b ≠ e → g1.get? b = some o → (g3.push { cls := .type "tuple", data := .seq #[.int cnt gt, .ref g0.objs.size] }).get? b = some o := fun b o hb q =>
    Heap.get?_push_of_some _ (sb3.extBut b o hb (sb2.extBut b o hb q))
  have tp4 : (g3.push { cls := .type "tuple", data := .seq #[.int cnt gt, .ref g0.objs.size] }).get? (g0.objs.size + 1) = some { cls := .type "tuple", data := .seq #[.int cnt gt, .ref g0.objs.size] } := by
    rw [← sz3]; exact Heap.get?_push_size _ rfl
  have sz4 : (g3.push { cls := .type "tuple", data := .seq #[.int cnt gt, .ref g0.objs.size] }).objs.size = g0.objs.size + 2 := by rw [Heap.size_push, sz3]
  rw [sz3]
  generalize g3.push { cls := .type "tuple", data := .seq #[.int cnt gt, .ref g0.objs.size] } = g4 at he4 kp4 tp4 sz4 ⊢
  show wpAny _ A (Builtin.SmallTypes.ownedTupleIsFree (.ref e) >>= _) _ _ _
  apply wpAny_bind
  unfold Builtin.SmallTypes.ownedTupleIsFree
  apply wpAny_bind
  refine wpAny_field he4 rfl (x := .none) rfl ?_
  apply wpAny_pure
  simp only [if_true]
  apply wpAny_bind
  apply wpAny_rule
  apply wpAny_bind
  refine wpAny_field he4 rfl (x := was) rfl ?_
  apply wpAny_bind
  refine wpAny_setField_rec he4 (by simp) fun g5 he5 sb5 => ?_
  replace sb5 : Heap.SameBut e g4 g5 := sb5
  replace he5 : IsEnum g5 e z (cnt + 1) (.ref g0.objs.size) := he5
  show wpAny _ A (Builtin.SmallTypes.ownedTupleHandOut (.ref e) (.ref (g0.objs.size + 1)) >>= _) _ _ _
  apply wpAny_bind
  unfold Builtin.SmallTypes.ownedTupleHandOut
  apply wpAny_bind
  refine wpAny_setField_rec he5 (by simp) fun g6 he6 sb6 => ?_
  replace sb6 : Heap.SameBut e g5 g6 := sb6
  replace he6 : IsEnumOut g6 e z (cnt + 1) (.ref g0.objs.size) (g0.objs.size + 1) := he6
  refine wpAny_setField_rec he6 (by simp) fun g7 he7 sb7 => ?_
  replace sb7 : Heap.SameBut e g6 g7 := sb7
  replace he7 : IsEnumOut g7 e z (cnt + 1) (.ref g0.objs.size) (g0.objs.size + 1) := he7
  have kp7 : ∀ b o, b ≠ e → g4.get? b = some o → g7.get? b = some o := fun b o hb q => sb7.extBut b o hb (sb6.extBut b o hb (sb5.extBut b o hb q))
  apply wpAny_bind
  apply wpAny_letGo
  apply wpAny_pure
  refine ⟨_, rfl, hQ g7 gt (fun b o hb q => ?_) ?_ ?_ ?_ he7 (st1.keep fun b hb o q => kp7 b o (fun w => off (w ▸ hb)) (kp4 b o (fun w => off (w ▸ hb)) q))⟩
  · have hbe : b ≠ e := fun w => hb (by simp [w])
    exact kp7 b o hbe (kp4 b o hbe (kp1 b o (fun w => hb (List.mem_cons_of_mem _ w)) q))
  · exact kp7 _ _ (Nat.ne_of_gt hS) (kp4 _ _ (Nat.ne_of_gt hS) pr1)
  · exact kp7 _ _ (Nat.ne_of_gt (Nat.lt_succ_of_lt hS)) tp4
  · rw [sb7.1, sb6.1, sb5.1, sz4]
theorem enumZ_item {i : Nat} {s : Shared} {x y was : Value} {cnt : Int} {Q : Option Value → Shared → Prop} (D : ZipApart z TI TO i1 i2 l1 l2) (off : e ∉ [z, TI, TO, i1, i2]) (he : IsEnum s.heap e z cnt was) (st : ZCell z TI TO i1 i2 l1 l2 i s.heap) (hl1 : s.heap.IsList l1 xs) (hl2 : s.heap.IsList l2 ys) (hx : xs[i]? = some x) (hy : ys[i]? = some y)
    (hQ : ∀ h' tk, (∀ b o, b ∉ [e, z, TO, i1, i2] → s.heap.get? b = some o → h'.get? b = some o) → IsPair h' s.heap.objs.size x y →
      h'.get? (s.heap.objs.size + 1) = some { cls := .type "tuple", data := .seq #[.int cnt tk, .ref s.heap.objs.size] } → h'.objs.size = s.heap.objs.size + 2 → IsEnumOut h' e z (cnt + 1) (.ref s.heap.objs.size) (s.heap.objs.size + 1) →
      ZCell z TI TO i1 i2 l1 l2 (i + 1) h' → Q (some (.ref (s.heap.objs.size + 1))) { s with heap := h', toks := tk + 1 }) :
    wpAny (model X.prog X.w) A (pyNext (.ref e)) Q E s := by
  have ty : s.TypeIs (.ref e) "enumerate" := ⟨_, he, rfl⟩
  unfold pyNext
  refine wpAny_bind (wpAny_attempt (wpAny_callSpecial?_slot (name := Str.ofString "__next__") ty F.slot_enumerate_next (wpAny_call_entry F.slot_enumerate_next ty F.entry_enumerate_next ?_ (F.args_enumerate_next_1 _))))
  exact enumZ_next (X := X) D off he st hl1 hl2 hx hy fun h' tk a b c d f g => wpAny_pure (hQ h' tk a b c d f g)
theorem enumZ_end {i : Nat} {s : Shared} {was : Value} {cnt : Int} {Q : Option Value → Shared → Prop} (hh : A.handled = none) (D : ZipApart z TI TO i1 i2 l1 l2) (he : IsEnum s.heap e z cnt was) (st : ZCell z TI TO i1 i2 l1 l2 i s.heap) (hl1 : s.heap.IsList l1 xs) (hl2 : s.heap.IsList l2 ys) (hend : xs[i]? = none ∨ ys[i]? = none)
    (hQ : ∀ h', (∀ b o, b ∉ [z, TO, i1, i2] → s.heap.get? b = some o → h'.get? b = some o) → Q none { s with heap := h' }) : wpAny (model X.prog X.w) A (pyNext (.ref e)) Q E s := by
  have ty : s.TypeIs (.ref e) "enumerate" := ⟨_, he, rfl⟩
  obtain ⟨hTI, h1, h2, ⟨a, b, hTO⟩, hz⟩ := st
  unfold pyNext
  refine wpAny_bind (wpAny_attempt (wpAny_callSpecial?_slot (name := Str.ofString "__next__") ty F.slot_enumerate_next (wpAny_call_entry F.slot_enumerate_next ty F.entry_enumerate_next ?_ (F.args_enumerate_next_1 _))))
  show wpAny _ A.in1 (field (.ref e) 2 >>= _) _ _ _
  apply wpAny_bind
  refine wpAny_field he rfl (x := .ref z) rfl ?_
  apply wpAny_bind
  unfold Builtin.SmallTypes.nextOf
  apply wpAny_bind
  rcases hz with hz | ⟨T, f, hz⟩
  · have tz : s.TypeIs (.ref z) "zip" := ⟨_, hz, rfl⟩
    refine wpAny_callSpecial?_slot (name := Str.ofString "__next__") tz F.slot_zip_next (wpAny_call_entry F.slot_zip_next tz F.entry_zip_next (zip_next_end hh D hz hTI hTO h1 h2 hl1 hl2 hend fun h' ex hk ⟨o, ho, hc⟩ => ?_) (F.args_zip_next_1 _))
    apply wpAny_bind
    refine wpAny_isInstance (T := "StopIteration") (b := true) ⟨o, ho, hc⟩ isSubtype_stop ?_
    apply wpAny_pure
    exact hQ h' fun c o hc e => hk c o (fun q => hc (by simp [q])) (fun q => hc (by simp [q])) (fun q => hc (by simp [q])) (fun q => hc (by simp [q])) e
  · have tz : s.TypeIs (.ref z) "zip" := ⟨_, hz, rfl⟩
    cases hT : s.heap.get? T with
    | some oT =>
      refine wpAny_callSpecial?_slot (name := Str.ofString "__next__") tz F.slot_zip_next (wpAny_call_entry F.slot_zip_next tz F.entry_zip_next (zip_next_end_held hh D hz hT hTI h1 h2 hl1 hl2 hend fun h' ex hk ⟨o, ho, hc⟩ => ?_) (F.args_zip_next_1 _))
      apply wpAny_bind
      refine wpAny_isInstance (T := "StopIteration") (b := true) ⟨o, ho, hc⟩ isSubtype_stop ?_
      apply wpAny_pure
      exact hQ h' fun c o hc e => hk c o (fun q => hc (by simp [q])) (fun q => hc (by simp [q])) (fun q => hc (by simp [q])) e
    | none =>
      refine wpAny_callSpecial?_slot (name := Str.ofString "__next__") tz F.slot_zip_next (wpAny_call_entry F.slot_zip_next tz F.entry_zip_next (zip_end_dead (X := X) hh D hz hT hTI hTO h1 h2 hl1 hl2 hend fun h' ex hk ⟨o, ho, hc⟩ => ?_) (F.args_zip_next_1 _))
      apply wpAny_bind
      refine wpAny_isInstance (T := "StopIteration") (b := true) ⟨o, ho, hc⟩ isSubtype_stop ?_
      apply wpAny_pure
      exact hQ h' fun c o hc e => hk c o (fun q => hc (by simp [q])) (fun q => hc (by simp [q])) (fun q => hc (by simp [q])) (fun q => hc (by simp [q])) e
end
/-- the lists at a and b, a new pair of their items in a new pair with its number from c on -/
def Iez (K : PySem.W.Frag) (a b : Addr) (c : Int) : It where
  go i H := ∃ (xs ys : List V) (x y : V), SqL K H a xs ∧ SqL K H b ys ∧ xs[i]? = some x ∧ ys[i]? = some y
  yld i H v H' := ∃ T T2 x y, v = .ref T2 ∧ H T = none ∧ H T2 = none ∧ T ≠ T2 ∧ H' = upd (upd H T (.tup [x, y])) T2 (.tup [.int (c + (i : Nat)), .ref T]) ∧ (∀ xs, SqL K H a xs → xs[i]? = some x) ∧ ∀ ys, SqL K H b ys → ys[i]? = some y
  stop i H := ∃ xs ys : List V, SqL K H a xs ∧ SqL K H b ys ∧ (xs.length ≤ i ∨ ys.length ≤ i)
theorem turn_enumZ {P : Program} {w : World} {K : PySem.W.Frag} {elts : List Expr} {kk : Nat} {tpos : Pos} {a b e z TI TO i1 i2 : Addr} (c : Int) (D : ZipApart z TI TO i1 i2 a b) (off : e ∉ [z, TI, TO, i1, i2]) :
    Turn P w K (.Tuple elts kk tpos) (Iez K a b c) [e, z, TI, TO, i1, i2] e (fun i h => (∃ was, IsEnum h e z (c + ((i : Nat) : Int)) was) ∧ ZCell z TI TO i1 i2 a b i h) where
  mem := List.mem_cons_self
  obj := by
    rintro i h ⟨⟨was, he⟩, hTI, ⟨o1, e1, _, d1⟩, ⟨o2, e2, _, d2⟩, ⟨x, y, hTO⟩, hz⟩ q hq
    have hq' : q = e ∨ q = z ∨ q = TI ∨ q = TO ∨ q = i1 ∨ q = i2 := by simpa using hq
    rcases hq' with r | r | r | r | r | r <;> subst r
    · exact ⟨_, he, fun v w => nomatch w⟩
    · rcases hz with hz | ⟨T, f, hz⟩
      · exact ⟨_, hz, fun v w => nomatch w⟩
      · exact ⟨_, hz, fun v w => nomatch w⟩
    · exact ⟨_, hTI, fun v w => nomatch w⟩
    · exact ⟨_, hTO, fun v w => nomatch w⟩
    · exact ⟨o1, e1, fun v w => by rw [d1] at w; cases w⟩
    · exact ⟨o2, e2, fun v w => by rw [d2] at w; cases w⟩
  keep := by
    rintro i h h' ⟨⟨was, he⟩, st⟩ k
    exact ⟨⟨was, k e List.mem_cons_self _ he⟩, st.keep fun q hq o r => k q (List.mem_cons_of_mem _ hq) o r⟩
  item := by
    intro X hP hw hK hc i pins s σ H E I hf st hg
    subst hP hw hK
    obtain ⟨⟨was, he⟩, zc⟩ := st
    obtain ⟨xs, ys, x, y, hqx, hqy, hx, hy⟩ := hg
    obtain ⟨its, rv, p, _⟩ := I.list hqx
    obtain ⟨its2, rv2, p2, _⟩ := I.list hqy
    obtain ⟨u, hu, ru⟩ := rv.get hx
    obtain ⟨u2, hu2, ru2⟩ := rv2.get hy
    have hel : e < s.heap.objs.size := Heap.lt_size he
    have old : ∀ q ∈ [e, z, TI, TO, i1, i2], q < s.heap.objs.size := fun q hq => by
      obtain ⟨hTI, ⟨o1, e1, _⟩, ⟨o2, e2, _⟩, ⟨_, _, hTO⟩, hz⟩ := zc
      have hq' : q = e ∨ q = z ∨ q = TI ∨ q = TO ∨ q = i1 ∨ q = i2 := by simpa using hq
      rcases hq' with r | r | r | r | r | r <;> rw [r]
      · exact hel
      · rcases hz with hz | ⟨_, _, hz⟩ <;> exact Heap.lt_size hz
      · exact Heap.lt_size hTI
      · exact Heap.lt_size hTO
      · exact Heap.lt_size e1
      · exact Heap.lt_size e2
    refine enumZ_item (X := X) D off he zc p.isList p2.isList (x := u) (y := u2) (by simpa using hu) (by simpa using hu2) fun h' tk kp pr tp sz ho zc' => ?_
    refine ⟨_, rfl, wpAny_letOwnedTupleGo_enum (s := { s with heap := h', toks := tk + 1 }) ho fun h'' he' sb => ?_⟩
    have up : ∀ q o, q ≠ e → h'.get? q = some o → h''.get? q = some o := fun q o hq r => (sb.2 q hq).trans r
    have nT : H s.heap.objs.size = none := I.hok.fresh (Nat.le_refl _)
    have nT2 : H (s.heap.objs.size + 1) = none := I.hok.fresh (Nat.le_succ _)
    have pr2 := up _ _ (Nat.ne_of_gt hel) pr
    have tp2 := up _ _ (Nat.ne_of_gt (Nat.lt_succ_of_lt hel)) tp
    obtain ⟨G, gk, gn⟩ := restrict h'' fun q => decide (q ≠ s.heap.objs.size + 1)
    have gk' : ∀ q, q ≠ s.heap.objs.size + 1 → G.get? q = h''.get? q := fun q hq => gk q (decide_eq_true hq)
    have gn' : G.get? (s.heap.objs.size + 1) = none := gn _ (by simp)
    have new1 : ObjOk X.prog X.w (upd H s.heap.objs.size (.tup [x, y])) G s.heap.objs.size (.tup [x, y]) :=
      ⟨szL rfl, [u, u2], .cons ru (.cons ru2 .nil), ⟨_, (gk' _ (Nat.ne_of_lt (Nat.lt_succ_self _))).trans pr2, rfl, _, rfl⟩⟩
    have I1 : Inv X pins σ (upd H s.heap.objs.size (.tup [x, y])) { s with heap := G, toks := tk + 1 } := by
      refine I.turnedNew (ch := [e, z, TI, TO, i1, i2]) (fun q o hq r => ?_) hf (Nat.le_refl _) new1
      have hlt := Heap.lt_size r
      rw [gk' q (Nat.ne_of_lt (Nat.lt_succ_of_lt hlt))]
      exact up q o (fun w => hq (by simp [w])) (kp q o (fun w => hq (by
        have w' : q = e ∨ q = z ∨ q = TO ∨ q = i1 ∨ q = i2 := by simpa using w
        rcases w' with w | w | w | w | w <;> simp [w])) r)
    have nn2 : upd H s.heap.objs.size (.tup [x, y]) (s.heap.objs.size + 1) = none := by rw [upd_ne (Nat.ne_of_gt (Nat.lt_succ_self _))]; exact nT2
    have new2 : ObjOk X.prog X.w (upd (upd H s.heap.objs.size (.tup [x, y])) (s.heap.objs.size + 1) (.tup [.int (c + (i : Nat)), .ref s.heap.objs.size])) h'' (s.heap.objs.size + 1) (.tup [.int (c + (i : Nat)), .ref s.heap.objs.size]) :=
      ⟨szL rfl, [.int (c + (i : Nat)) tk, .ref s.heap.objs.size], .cons ⟨_, rfl⟩ (.cons rfl .nil), ⟨_, tp2, rfl, _, rfl⟩⟩
    have I2 := I1.laidN (t' := tk + 1) (h' := h'') (fun q o r => by
      have hq : q ≠ s.heap.objs.size + 1 := fun w => by
        have r' : G.get? q = some o := r
        rw [w, gn'] at r'; cases r'
      have r' : G.get? q = some o := r
      rw [gk' q hq] at r'; exact r') gn' nn2 new2
    refine ⟨.ref (s.heap.objs.size + 1), _, I2, rfl, ⟨_, _, x, y, rfl, nT, nT2, Nat.ne_of_lt (Nat.lt_succ_self _), rfl, fun l hl => by rw [I.list_inj hl hqx]; exact hx, fun l hl => by rw [I.list_inj hl hqy]; exact hy⟩, ⟨⟨.ref s.heap.objs.size, ?_⟩, zc'.keep fun q hq o r => up q o (fun w => off (w ▸ hq)) r⟩, fun q hq => ?_⟩
    · rw [show c + ((i + 1 : Nat) : Int) = c + (i : Int) + 1 by omega]; exact he'
    · have := old q hq
      rw [upd_ne (Nat.ne_of_lt (Nat.lt_succ_of_lt this)), upd_ne (Nat.ne_of_lt this)]
      exact (hf q hq).1
  done := by
    intro X hP hw hK hc i pins s σ H E I hf st hg
    subst hP hw hK
    obtain ⟨⟨was, he⟩, zc⟩ := st
    obtain ⟨xs, ys, hqx, hqy, hend⟩ := hg
    obtain ⟨its, rv, p, _⟩ := I.list hqx
    obtain ⟨its2, rv2, p2, _⟩ := I.list hqy
    have l1 := rv.length
    have l2 := rv2.length
    have hend' : its.toArray[i]? = none ∨ its2.toArray[i]? = none := by
      rcases hend with q | q
      · exact .inl (by simp; omega)
      · exact .inr (by simp; omega)
    refine enumZ_end (X := X) (I.ok.hd hc) D he zc p.isList p2.isList hend' fun h' kp => ⟨rfl, I.turnedL (t' := s.toks) (ch := [e, z, TI, TO, i1, i2]) (fun q o hq r => kp q o (fun w => hq ?_) r) hf⟩
    have w' : q = z ∨ q = TO ∨ q = i1 ∨ q = i2 := by simpa using w
    rcases w' with w | w | w | w <;> simp [w]
  self := fun A i s Q E st h => let ⟨⟨_, he⟩, _⟩ := st; wpAny_pyIter_enum he h
/-- an enumerate object over a zip, made with start= -/
def ezObj (z : Addr) (k : Int) : Obj := { cls := .type "enumerate", data := .fields #[.none, .bool false, .ref z, rawInt k, .none, .none] }
set_option maxHeartbeats 1000000 in
theorem meets_ez {z TI TO : Addr} {f0 : Value} (k : Int) (t : Tok) (hfit : Builtin.SmallTypes.fitsIndex k = true) :
    Meets (Builtin.«enumerate.__new__» ⟨[.type "enumerate", .ref z], [(Str.ofString "start", .int k t)]⟩) (fun _ R s => IsZip s.heap z TI TO f0 ∧ R (.ok (.ret (.ref s.heap.objs.size))) { s with heap := s.heap.push (ezObj z k) }) :=
  .of_wp fun prog w A R s h => by
    obtain ⟨hp, gn, dr, tk, os⟩ := s
    obtain ⟨hz, h⟩ := h
    have sb := sub_enumerate
    have nf : (!Builtin.SmallTypes.fitsIndex k) = false := by rw [hfit]; rfl
    have itr : ∀ {A' : Around} {E : Value → Shared → Prop} {Q : Value → Shared → Prop}, Q (.ref z) ⟨hp, gn, dr, tk, os⟩ → wpAny (model prog w) A' (pyIter (.ref z)) Q E ⟨hp, gn, dr, tk, os⟩ := fun q => wpAny_pyIter_zip hz q
    have w1 : (Str.ofString "start" == ("start" : Str)) = true ∧ (Str.ofString "start" != ("start" : Str)) = false ∧ (Str.ofString "start" != ("iterable" : Str)) = true ∧ (("start" : Str) == Str.ofString "start") = true ∧ (("iterable" : Str) == Str.ofString "start") = false := by decide +kernel
    obtain ⟨w1, w2, w3, w4, w5⟩ := w1
    wp_walk using itr
    refine wpAny_stack_any fun st => ?_
    apply wpAny_pure
    split
    · rename_i c _ _ _ _ _
      by_cases q : (c == Value.type "enumerate") = true
      · rw [q]
        wp_walk using itr
        exact ⟨_, rfl, h⟩
      · rw [Bool.eq_false_iff.mpr q]
        wp_walk using itr
        exact ⟨_, rfl, h⟩
    · wp_walk using itr
      exact ⟨_, rfl, h⟩
theorem ez_begins {X : Cx} {A : Around} {E : Value → Shared → Prop} {s : Shared} {z TI TO : Addr} {f0 : Value} {k : Int} {t : Tok} {Q : Value → Shared → Prop} (hz : IsZip s.heap z TI TO f0) (hk0 : -(2 ^ 63) ≤ k) (hk1 : k < 2 ^ 63)
    (h : Q (.ref s.heap.objs.size) { s with heap := s.heap.push (ezObj z k) }) :
    wpAny (model X.prog X.w) A (call (.type "enumerate") [.ref z] [(Str.ofString "start", .int k t)]) Q E s :=
  callType_newKw F.called_enumerate (by decide) (F.typeCall_enumerate_start _ _) (F.newCall_enumerate_start _ _) (fun obj => F.args_object_init_start obj _ _) F.entry_enumerate_new
    (meets_ez k t (fits_start hk0 hk1)) ⟨hz, ⟨_, Heap.get?_push_size _ rfl, rfl⟩, h⟩
/-- what a walk over enumerate(zip(xs, ys), start=c) asks -/
def iEnumZ (K : PySem.W.Frag) (c : Int) (ta : TA) : TI := fun σ H R => ta σ H fun vs H1 => ∃ (a b : Addr) (xs ys : List V), vs = [.ref a, .ref b] ∧ SqL K H1 a xs ∧ SqL K H1 b ys ∧ R (Iez K a b c) H1
theorem pi_enumZ {X : Cx} {e1 e2 : Expr} {ta : TA} {c : Int} {j : Nat} {kp kq p pos p2 pos2 tpos : Pos} {elts : List Expr} {kk : Nat} (hc0 : -1000000 ≤ c) (hc1 : c ≤ 1000000) (hg : Gl X "enumerate") (hm : X.mg "enumerate" = none) (hgz : Gl X "zip") (hmz : X.mg "zip" = none) (ha : PA X [e1, e2] ta)
    (hs : starEach [e1, e2] X.env = (false, eval e1 X.env) :: starEach [e2] X.env := by rfl) (hpl : (backTo pos2 (starEach [e2] X.env)).any (·.1) = false := by rfl)
    (hz : backTo pos (starEach [.Call (.Name "zip" p2) [e1, e2] [] pos2] X.env) = [(false, eval (.Call (.Name "zip" p2) [e1, e2] [] pos2) X.env)] := by rfl)
    (hall : (backToKw pos (keywordEach [⟨some (Str.ofString "start"), .Constant (.int c) j kp, kq⟩] X.env)).all (·.1.isSome) = true := by rfl) (hnn : (backToKw pos (keywordEach [⟨some (Str.ofString "start"), .Constant (.int c) j kp, kq⟩] X.env)).any (·.1.isNone) = false := by rfl) :
    PI X (.Tuple elts kk tpos) (.Call (.Name "enumerate" p) [.Call (.Name "zip" p2) [e1, e2] [] pos2] [⟨some (Str.ofString "start"), .Constant (.int c) j kp, kq⟩] pos) (iEnumZ X.K c ta) := by
  refine ⟨fun pins s σ H R I h => ?_⟩
  refine wpAny_Call_Name_kw (ld_blt I hg hm boot_enumerate ?_)
  rw [hz]
  refine PySem.W.callWith_of (P := fun _ => True) (by rw [hnn]; rfl) (fun h _ => ⟨.machine, .inr (.inl rfl), .of_pure rfl⟩) (evalArgs_kwB hall ?_)
  refine Calls.spliced_cons (Call_ (ld_blt I hgz hmz PyProof.Rows.boot_zip (PyProof.Rows.callWith_type1 (thn (ha.run pos2 pins s σ H _ I h) fun us s1 ⟨vs, H1, I1, r1, q1⟩ => ?_) hs hpl)))
  obtain ⟨a, b, xs, ys, ex, hqx, hqy, q⟩ := q1
  subst ex
  cases r1 with
  | cons r rr =>
    cases rr with
    | cons r' rr =>
      cases rr
      cases r
      cases r'
      obtain ⟨its, rv, pl1, _⟩ := I1.list hqx
      obtain ⟨its2, rv2, pl2, _⟩ := I1.list hqy
      have la : a < s1.heap.objs.size := pl1.lt
      have lb : b < s1.heap.objs.size := pl2.lt
      refine call_zip_2 pl1.isList pl2.isList fun h' hz' hTI hTO h1 h2 hsz hk => Calls.spliced_nil (PyProof.Rows.kws_cons (wpAny_Constant_int (PyProof.Rows.kws_nil ⟨trivial, ?_⟩)))
      refine ez_begins (X := X) (s := { s1 with heap := h', toks := s1.toks + 1 }) hz' (by omega) (by omega) ?_
      have he : IsEnum (h'.push (ezObj (s1.heap.objs.size + 4) c)) h'.objs.size (s1.heap.objs.size + 4) c .none := Heap.get?_push_size _ rfl
      have kp' : ∀ b o, h'.get? b = some o → (h'.push (ezObj (s1.heap.objs.size + 4) c)).get? b = some o := fun b o r => Heap.get?_push_of_some _ r
      refine wpAny_pyIter_enum he ?_
      have I2 : Inv X pins σ H1 { s1 with heap := h'.push (ezObj (s1.heap.objs.size + 4) c), toks := s1.toks + 1 } := I1.kept (t' := s1.toks + 1) fun b o r => kp' b o (hk b o r)
      have SN : h'.objs.size = s1.heap.objs.size + 5 := hsz
      have off : h'.objs.size ∉ [s1.heap.objs.size + 4, s1.heap.objs.size + 2, s1.heap.objs.size + 3, s1.heap.objs.size, s1.heap.objs.size + 1] := by
        rw [SN]
        intro w
        have w' : s1.heap.objs.size + 5 = s1.heap.objs.size + 4 ∨ s1.heap.objs.size + 5 = s1.heap.objs.size + 2 ∨ s1.heap.objs.size + 5 = s1.heap.objs.size + 3 ∨ s1.heap.objs.size + 5 = s1.heap.objs.size ∨ s1.heap.objs.size + 5 = s1.heap.objs.size + 1 := by simpa using w
        rcases w' with w | w | w | w | w <;> exact absurd w (by intro z; have : (s1.heap.objs.size + 5 : Nat) = _ := z; omega)
      have zc : ZCell (s1.heap.objs.size + 4) (s1.heap.objs.size + 2) (s1.heap.objs.size + 3) s1.heap.objs.size (s1.heap.objs.size + 1) a b 0 h' := ⟨hTI, h1, h2, ⟨_, _, hTO⟩, .inl hz'⟩
      refine ⟨h'.objs.size, h'.objs.size :: [s1.heap.objs.size + 4, s1.heap.objs.size + 2, s1.heap.objs.size + 3, s1.heap.objs.size, s1.heap.objs.size + 1], _, _, H1, rfl, I2, turn_enumZ c (PySem.W.ktu_apart s1.heap.objs.size a b la lb) off, ⟨⟨.none, by simpa using he⟩, zc.keep fun b _ o r => kp' b o r⟩, fun b hb => ?_, q⟩
      have hle : s1.heap.objs.size ≤ b := by
        rcases List.mem_cons.mp hb with w | w
        · rw [w, SN]; exact Nat.le_add_right _ _
        · have w' : b = s1.heap.objs.size + 4 ∨ b = s1.heap.objs.size + 2 ∨ b = s1.heap.objs.size + 3 ∨ b = s1.heap.objs.size ∨ b = s1.heap.objs.size + 1 := by simpa using w
          rcases w' with w | w | w | w | w <;> rw [w]
          · exact Nat.le_add_right _ _
          · exact Nat.le_add_right _ _
          · exact Nat.le_add_right _ _
          · exact Nat.le_refl _
          · exact Nat.le_add_right _ _
      exact I1.fpOk hle (I1.hok.fresh hle)
theorem pi_enumZK {X : Cx} (K : PySem.W.Frag) {e1 e2 : Expr} {ta : TA} {c : Int} {j : Nat} {kp kq p pos p2 pos2 tpos : Pos} {elts : List Expr} {kk : Nat} (hc0 : -1000000 ≤ c) (hc1 : c ≤ 1000000) (hg : Gl X "enumerate") (hm : X.mg "enumerate" = none) (hgz : Gl X "zip") (hmz : X.mg "zip" = none) (ha : PA X [e1, e2] ta) (hK : X.K = K := by rfl)
    (hs : starEach [e1, e2] X.env = (false, eval e1 X.env) :: starEach [e2] X.env := by rfl) (hpl : (backTo pos2 (starEach [e2] X.env)).any (·.1) = false := by rfl)
    (hz : backTo pos (starEach [.Call (.Name "zip" p2) [e1, e2] [] pos2] X.env) = [(false, eval (.Call (.Name "zip" p2) [e1, e2] [] pos2) X.env)] := by rfl)
    (hall : (backToKw pos (keywordEach [⟨some (Str.ofString "start"), .Constant (.int c) j kp, kq⟩] X.env)).all (·.1.isSome) = true := by rfl) (hnn : (backToKw pos (keywordEach [⟨some (Str.ofString "start"), .Constant (.int c) j kp, kq⟩] X.env)).any (·.1.isNone) = false := by rfl) :
    PI X (.Tuple elts kk tpos) (.Call (.Name "enumerate" p) [.Call (.Name "zip" p2) [e1, e2] [] pos2] [⟨some (Str.ofString "start"), .Constant (.int c) j kp, kq⟩] pos) (iEnumZ K c ta) := hK ▸ pi_enumZ hc0 hc1 hg hm hgz hmz ha hs hpl hz hall hnn
section
variable {K : PySem.W.Frag} {σ : L2.St} {H : Hp} {ta : TA} {R : L2.It → Hp → Prop} {a b : Addr} {xs ys : List V} {c : Int} {n : Nat}
theorem r_iEnumZ (h : ta σ H fun vs H1 => ∃ (a b : Addr) (xs ys : List V), vs = [.ref a, .ref b] ∧ SqL K H1 a xs ∧ SqL K H1 b ys ∧ R (Iez K a b c) H1) : iEnumZ K c ta σ H R := h
/-- the pair and the pair around it, both new -/
def YEz (c : Int) (xs ys : List V) : Nat → Hp → V → Hp → Prop := fun i H v H' => ∃ T T2 x y, v = .ref T2 ∧ H T = none ∧ H T2 = none ∧ T ≠ T2 ∧ H' = upd (upd H T (.tup [x, y])) T2 (.tup [.int (c + (i : Nat)), .ref T]) ∧ xs[i]? = some x ∧ ys[i]? = some y
theorem walk_enumZ (hn : n = min xs.length ys.length) : Walk (Iez K a b c) n (fun H => SqL K H a xs ∧ SqL K H b ys) (YEz c xs ys) :=
  ⟨fun i _ hi q => ⟨xs, ys, xs[i]'(by omega), ys[i]'(by omega), q.1, q.2, List.getElem?_eq_getElem _, List.getElem?_eq_getElem _⟩, fun _ q => ⟨xs, ys, q.1, q.2, by omega⟩,
    fun i H v H' _ q ⟨T, T2, x, y, e1, e2, e3, e4, e5, e6, e7⟩ => ⟨T, T2, x, y, e1, e2, e3, e4, e5, e6 xs q.1, e7 ys q.2⟩⟩
end
end Xk
local macro_rules | `(tactic| fail "ww1") => `(tactic| with_reducible refine Xk.r_iEnumZ ?_)

set_option Elab.async false
set_option linter.all false
set_option maxRecDepth 100000
namespace Xk
open PySem PySem.Spec PyProof.Rows L2
/-! ### a op1 b op2 c op3 d -/
section
variable {X : Cx} {a b c d : Expr} {ta tb tc td : TE} {pos : Pos}
def tChain3 (r r' r'' : R2) (ta tb tc td : TE) : TE := fun σ H Q => ta σ H fun x H1 => tb σ H1 fun y H2 => r x y H2 fun z H3 => ∃ k, z = .bl k ∧
  (if k = true then tc σ H3 fun w H4 => r' y w H4 fun z2 H5 => ∃ k2, z2 = .bl k2 ∧ (if k2 = true then td σ H5 fun u H6 => r'' w u H6 Q else Q (.bl false) H5) else Q (.bl false) H3)
theorem pt_chain3 {op op' op2 : CmpOp} {r r' r'' : R2} (ho : OpR X (compareOp op) r) (ho' : OpR X (compareOp op') r') (ho2 : OpR X (compareOp op2) r'') (ha : PE X a ta) (hb : PE X b tb) (hc : PE X c tc) (hd : PE X d td)
    (hm : lastMarks [op, op', op2] [b, c, d] = false := by with_unfolding_all rfl) : PT X (.Compare a [op, op', op2] [b, c, d] pos) (tTest (tChain3 r r' r'' ta tb tc td)) := by
  refine ⟨fun pins s σ H Q I h => ?_⟩
  refine isTrue_chain (thn (ha.run pins s σ H _ I h) fun v s1 ⟨x, H1, I1, r1, q1⟩ => test_link (thn (hb.run pins s1 σ H1 _ I1 q1) fun u s2 ⟨y, H2, I2, r2, q2⟩ =>
    thn (ho pins s2 σ H2 x y v u _ I2 r1 r2 q2) fun d s3 ⟨z, H3, I3, r3, k, e, q3⟩ => ?_)) hm
  subst e
  cases r3
  refine wpAny_truthy_bool ?_
  cases k with
  | false =>
    obtain ⟨k', e', q'⟩ := q3
    cases e'
    exact ite_ff ⟨H3, I3, q'⟩
  | true =>
    refine ite_tt (test_link (thn (hc.run pins s3 σ H3 _ I3 q3) fun w' s4 ⟨z', H4, I4, r4, q4⟩ => thn (ho' pins s4 σ H4 y z' u w' _ I4 r2 r4 q4) fun d' s5 ⟨z2, H5, I5, r5, k2, e2, q5⟩ => ?_))
    subst e2
    cases r5
    refine wpAny_truthy_bool ?_
    cases k2 with
    | false =>
      obtain ⟨k', e', q'⟩ := q5
      cases e'
      exact ite_ff ⟨H5, I5, q'⟩
    | true =>
      refine ite_tt (test_last (thn (hd.run pins s5 σ H5 _ I5 q5) fun w2 s6 ⟨z6, H6, I6, r6, q6⟩ => thn (ho2 pins s6 σ H6 z' z6 w' w2 _ I6 r4 r6 q6) fun d' s7 ⟨z3, H7, I7, r7, k3, e3, q7⟩ => ?_))
      subst e3
      cases r7
      exact wpAny_truthy_bool ⟨H7, I7, q7⟩
theorem pe_chain3 {op op' op2 : CmpOp} {r r' r'' : R2} (ho : OpR X (compareOp op) r) (ho' : OpR X (compareOp op') r') (ho2 : OpR X (compareOp op2) r'') (ha : PE X a ta) (hb : PE X b tb) (hc : PE X c tc) (hd : PE X d td)
    (hm : lastMarks [op, op', op2] [b, c, d] = false := by with_unfolding_all rfl) : PE X (.Compare a [op, op', op2] [b, c, d] pos) (tChain3 r r' r'' ta tb tc td) := by
  refine ⟨fun pins s σ H Q I h => ?_⟩
  refine Compare_chain (thn (ha.run pins s σ H _ I h) fun v s1 ⟨x, H1, I1, r1, q1⟩ => chain_link (thn (hb.run pins s1 σ H1 _ I1 q1) fun u s2 ⟨y, H2, I2, r2, q2⟩ =>
    thn (ho pins s2 σ H2 x y v u _ I2 r1 r2 q2) fun d s3 ⟨z, H3, I3, r3, k, e, q3⟩ => ?_)) hm
  subst e
  cases r3
  refine wpAny_truthy_bool ?_
  cases k with
  | false => exact ite_ff ⟨.bl false, H3, I3, rfl, q3⟩
  | true =>
    refine ite_tt (chain_link (thn (hc.run pins s3 σ H3 _ I3 q3) fun w' s4 ⟨z', H4, I4, r4, q4⟩ => thn (ho' pins s4 σ H4 y z' u w' _ I4 r2 r4 q4) fun d' s5 ⟨z2, H5, I5, r5, k2, e2, q5⟩ => ?_))
    subst e2
    cases r5
    refine wpAny_truthy_bool ?_
    cases k2 with
    | false => exact ite_ff ⟨.bl false, H5, I5, rfl, q5⟩
    | true => exact ite_tt (chain_last (thn (hd.run pins s5 σ H5 _ I5 q5) fun w2 s6 ⟨z6, H6, I6, r6, q6⟩ => ho2 pins s6 σ H6 z' z6 w' w2 Q I6 r4 r6 q6))
theorem c_chain3 {r r' r'' : R2} {σ : L2.St} {H : Hp} {Q : VK} (h : ta σ H fun x H1 => tb σ H1 fun y H2 => r x y H2 fun z H3 => ∃ k, z = .bl k ∧
  (if k = true then tc σ H3 fun w H4 => r' y w H4 fun z2 H5 => ∃ k2, z2 = .bl k2 ∧ (if k2 = true then td σ H5 fun u H6 => r'' w u H6 Q else Q (.bl false) H5) else Q (.bl false) H3)) : tChain3 r r' r'' ta tb tc td σ H Q := h
end
end Xk
local macro_rules | `(tactic| fail "ww1") => `(tactic| with_reducible refine Xk.c_chain3 ?_)

set_option Elab.async false
set_option linter.all false
set_option maxRecDepth 100000
namespace Xk
open PySem PySem.Spec PyProof.Rows L2
/-! ### xs[l:u:o], any three parts -/
/-- the places that a slice picks -/
def pickIx (n : Nat) (l u o : Option Int) : List Nat := sliceRange (sliceBounds l u o n).1 (sliceBounds l u o n).2.1 (sliceBounds l u o n).2.2
def pickV {α : Type} (xs : List α) (l u o : Option Int) : List α := (pickIx xs.length l u o).filterMap fun i => xs[i]?
theorem pick_map {α β : Type} (f : α → β) (xs : List α) (l u o : Option Int) : pickV (xs.map f) l u o = (pickV xs l u o).map f := by
  unfold pickV
  rw [List.length_map, List.map_filterMap]
  congr 1
  funext i
  rw [List.getElem?_map]
theorem vals_opt : ∀ {xs : List V} {its : List Value}, Vals xs its → ∀ i : Nat, (xs[i]? = none ∧ its[i]? = none) ∨ ∃ x u, xs[i]? = some x ∧ its[i]? = some u ∧ RelV x u
  | _, _, .nil, _ => .inl ⟨rfl, rfl⟩
  | _, _, .cons r _, 0 => .inr ⟨_, _, rfl, rfl, r⟩
  | _, _, .cons _ t, i + 1 => vals_opt t i
theorem vals_pick {xs : List V} {its : List Value} (r : Vals xs its) : ∀ ix : List Nat, Vals (ix.filterMap fun i => xs[i]?) (ix.filterMap fun i => its[i]?)
  | [] => .nil
  | i :: t => by
    have ih := vals_pick r t
    rcases vals_opt r i with ⟨e1, e2⟩ | ⟨x, u, e1, e2, e3⟩
    · rw [List.filterMap_cons_none e1, List.filterMap_cons_none e2]
      exact ih
    · rw [List.filterMap_cons_some e1, List.filterMap_cons_some e2]
      exact .cons e3 ih
def tSl3 (K : PySem.W.Frag) (te : TE) (tl tu ts : TO) : TE := fun σ H Q => te σ H fun x H1 => tl σ H1 fun l H2 => tu σ H2 fun u H3 => ts σ H3 fun o H4 =>
  ∃ (a : Addr) (xs : List V), x = .ref a ∧ SqL K H4 a xs ∧ o ≠ some 0 ∧ (pickV xs l u o).length ≤ 16777216 ∧ New Q H4 (.lst (pickV xs l u o))
section
variable {X : Cx} (K : PySem.W.Frag) {e : Expr} {te : TE} {lo hi st : Option Expr} {tl tu ts : TO} {p3 pos : Pos}
theorem pe_sl3K (he : PE X e te) (hl : PO X lo tl) (hu : PO X hi tu) (hs : PO X st ts) (hsub : ∀ x y : Value, subscripted (.Slice lo hi st p3) false x y = operate [x, y] (getItem x y) := by intro _ _; with_unfolding_all rfl) (hK : X.K = K := by rfl) : PE X (.Subscript e (.Slice lo hi st p3) pos) (tSl3 K te tl tu ts) := by
  subst hK
  refine ⟨fun pins s σ H Q I z => Subscript_ (thn (he.run pins s σ H _ I z) fun v s1 ⟨x, H1, I1, r1, q1⟩ => wpAny_Slice (thn (hl.run pins s1 σ H1 _ I1 q1) fun vl s2 ⟨l, H2, I2, pl, q2⟩ =>
    thn (hu.run pins s2 σ H2 _ I2 q2) fun vu s3 ⟨u, H3, I3, pu, q3⟩ => thn (hs.run pins s3 σ H3 _ I3 q3) fun vs s4 ⟨o, H4, I4, ps, q4⟩ => ?_))⟩
  obtain ⟨a, xs, ex, hx, h0, hz', q⟩ := q4
  subst ex
  cases r1
  have J := I4.kept (t' := s4.toks) (h' := s4.heap.push { cls := .type "slice", data := .fields #[vl, vu, vs] }) fun b ob y => Heap.get?_push_of_some _ y
  obtain ⟨its, r, pl5, hz⟩ := J.list hx
  have hlen := r.length
  show wpAny (model X.prog X.w) X.A (subscriptTail e (.Slice lo hi st p3) (.ref a) (.ref s4.heap.objs.size)) (EP X pins σ Q) X.xe
    { s4 with heap := s4.heap.push { cls := .type "slice", data := .fields #[vl, vu, vs] } }
  refine tail_any (ops := [.ref a, .ref s4.heap.objs.size]) pl5.isList.typeIs PySem.slot_list_getitem.lookup ?_ (hsub _ _)
  refine wpAny_getItem_list_slice pl5.isList (Heap.IsSliceOf.new _ vl vu vs) pl pu ps h0 ?_ (by rw [List.size_toArray]; omega)
  have rp : Vals (pickV xs l u o) (slicePick its.toArray l u o).toList := by
    have e1 := vals_pick r (pickIx xs.length l u o)
    unfold slicePick
    unfold pickV
    rw [hlen] at e1 ⊢
    simpa [pickIx] using e1
  refine ⟨.ref _, _, J.laid (t' := s4.toks) (o := .lst (pickV xs l u o)) (fun b ob y => Heap.get?_push_of_some _ y) (Nat.le_refl _) ?_, rfl, q _ (J.hok.fresh (Nat.le_refl _))⟩
  exact ⟨hz', _, 0, rp, Heap.get?_push_size _ rfl⟩
end
theorem n_sl3 {K : PySem.W.Frag} {σ : L2.St} {H : Hp} {Q : VK} {te : TE} {tl tu ts : TO} (h : te σ H fun x H1 => tl σ H1 fun l H2 => tu σ H2 fun u H3 => ts σ H3 fun o H4 =>
  ∃ (a : Addr) (xs : List V), x = .ref a ∧ SqL K H4 a xs ∧ o ≠ some 0 ∧ (pickV xs l u o).length ≤ 16777216 ∧ New Q H4 (.lst (pickV xs l u o))) : tSl3 K te tl tu ts σ H Q := h
theorem r_star {K : PySem.W.Frag} {σ : L2.St} {H : Hp} {te : TE} {t : TA} {R : List V → Hp → Prop} (h : te σ H fun x H1 => ∃ (p : Addr) (xs : List V), x = .ref p ∧ (SqT K H1 p xs ∨ SqL K H1 p xs) ∧ t σ H1 fun ys H2 => R (xs ++ ys) H2) : StX.tStar K te t σ H R := h
/-! ### repr of a number -/
def rReprI : List V → Hp → VK → Prop := fun xs H Q => ∃ i, xs = [.int i] ∧ i.natAbs.log2 < 1920 ∧ Q (.str (toString i)) H
theorem reprI {X : Cx} : CallR X (.builtin "repr") rReprI := SkE.call_repr_int
theorem log_small {i : Int} {k : Nat} (h : i.natAbs < 2 ^ k) (hk : k ≤ 1900) : i.natAbs.log2 < 1920 := by
  by_cases z : i.natAbs = 0
  · rw [z]; decide
  · exact (Nat.log2_lt z).mpr (Nat.lt_of_lt_of_le h (Nat.pow_le_pow_right (by decide) (by omega)))
theorem r_reprI {H : Hp} {Q : VK} {i : Int} {k : Nat} (h : i.natAbs < 2 ^ k) (hk : k ≤ 1900) (q : Q (.str (toString i)) H) : rReprI [.int i] H Q := ⟨i, rfl, log_small h hk, q⟩
/-! ### math.comb -/
theorem comb_run (a : Int) (t : Tok) (b : Int) (u : Tok) (h0 : ¬ a < 0) (h1 : ¬ b < 0) (h2 : ¬ b > a) (h3 : a < 9000) (hz : ((Builtin.Math.fallingProduct a (min b (a - b)).toNat / Builtin.Math.fallingProduct (min b (a - b)) (min b (a - b)).toNat)).natAbs.log2 < bitsLine) :
    PySem.Gives (Builtin.«math.comb» ⟨[.int a t, .int b u], []⟩) (.int (Builtin.Math.fallingProduct a (min b (a - b)).toNat / Builtin.Math.fallingProduct (min b (a - b)) (min b (a - b)).toNat)) :=
  .of_wp fun M A E s Q h => by
    have g1 : ¬ min b (a - b) > Builtin.Math.maxSsize := by unfold Builtin.Math.maxSsize; omega
    have g2 : ¬ min b (a - b) > Builtin.Math.manyFactors := by unfold Builtin.Math.manyFactors; omega
    have g3 : ¬ min b (a - b) > 9000 := by omega
    obtain ⟨hp, g, d, tk, os⟩ := s
    wp_walk
    exact ⟨_, rfl, h⟩
/-- the number of choices -/
def cmb : Nat → Nat → Nat
  | _, 0 => 1
  | 0, _ + 1 => 0
  | n + 1, k + 1 => cmb n k + cmb n (k + 1)
def fac : Nat → Nat
  | 0 => 1
  | n + 1 => (n + 1) * fac n
theorem fac_pos : ∀ n, 0 < fac n
  | 0 => Nat.one_pos
  | n + 1 => Nat.mul_pos (Nat.succ_pos n) (fac_pos n)
theorem cmb_zero (n : Nat) : cmb n 0 = 1 := by cases n <;> rfl
theorem cmb_big : ∀ {n k : Nat}, n < k → cmb n k = 0
  | 0, k + 1, _ => rfl
  | n + 1, k + 1, h => by
    show cmb n k + cmb n (k + 1) = 0
    rw [cmb_big (show n < k by omega), cmb_big (show n < k + 1 by omega)]
theorem cmb_self : ∀ n, cmb n n = 1
  | 0 => rfl
  | n + 1 => by
    show cmb n n + cmb n (n + 1) = 1
    rw [cmb_self n, cmb_big (Nat.lt_succ_self n)]
theorem cmb_fac : ∀ (n k : Nat), cmb (n + k) k * (fac k * fac n) = fac (n + k)
  | 0, k => by rw [Nat.zero_add, cmb_self]; simp [fac]
  | n + 1, 0 => by rw [cmb_zero]; simp [fac]
  | n + 1, k + 1 => by
    have h1 := cmb_fac (n + 1) k
    have h2 := cmb_fac n (k + 1)
    show (cmb (n + 1 + k) k + cmb (n + 1 + k) (k + 1)) * (((k + 1) * fac k) * ((n + 1) * fac n)) = (n + 1 + k + 1) * fac (n + 1 + k)
    rw [show n + (k + 1) = n + 1 + k by omega] at h2
    have e1 : cmb (n + 1 + k) k * (((k + 1) * fac k) * ((n + 1) * fac n)) = (k + 1) * fac (n + 1 + k) := by
      rw [← h1]; show _ = (k + 1) * (cmb (n + 1 + k) k * (fac k * ((n + 1) * fac n))); ac_rfl
    have e2 : cmb (n + 1 + k) (k + 1) * (((k + 1) * fac k) * ((n + 1) * fac n)) = (n + 1) * fac (n + 1 + k) := by
      rw [← h2]; show _ = (n + 1) * (cmb (n + 1 + k) (k + 1) * ((k + 1) * fac k * fac n)); ac_rfl
    rw [Nat.add_mul, e1, e2, ← Nat.add_mul]
    congr 1; omega
theorem cmb_sym {n k : Nat} (h : k ≤ n) : cmb n (n - k) = cmb n k := by
  have h1 := cmb_fac (n - k) k
  have h2 := cmb_fac k (n - k)
  rw [show n - k + k = n by omega] at h1
  rw [show k + (n - k) = n by omega, Nat.mul_comm (fac (n - k))] at h2
  exact Nat.eq_of_mul_eq_mul_right (Nat.mul_pos (fac_pos k) (fac_pos (n - k))) (h2.trans h1.symm)
theorem cmb_le : ∀ n k, cmb n k ≤ 2 ^ n
  | _, 0 => by rw [cmb_zero]; exact Nat.one_le_two_pow
  | 0, _ + 1 => Nat.zero_le _
  | n + 1, k + 1 => by
    have h1 := cmb_le n k
    have h2 := cmb_le n (k + 1)
    show cmb n k + cmb n (k + 1) ≤ 2 ^ (n + 1)
    rw [Nat.pow_succ]; omega
theorem fall_succ (n : Int) (k : Nat) : Builtin.Math.fallingProduct n (k + 1) = Builtin.Math.fallingProduct n k * (n - (k : Int)) := by
  unfold Builtin.Math.fallingProduct
  rw [List.range_succ, List.foldl_append]; rfl
theorem fall_fac : ∀ (k n : Nat), Builtin.Math.fallingProduct ((n + k : Nat) : Int) k * (fac n : Int) = (fac (n + k) : Int)
  | 0, n => by show (1 : Int) * _ = _; rw [Int.one_mul]; rfl
  | k + 1, n => by
    have ih := fall_fac k (n + 1)
    rw [fall_succ, show (((n + (k + 1) : Nat) : Int) - (k : Int)) = ((n + 1 : Nat) : Int) by omega, Int.mul_assoc, ← Int.natCast_mul]
    rw [show n + 1 + k = n + (k + 1) by omega] at ih
    exact ih
theorem fall_cmb (n k : Nat) (h : k ≤ n) : Builtin.Math.fallingProduct (n : Int) k / Builtin.Math.fallingProduct (k : Int) k = (cmb n k : Int) := by
  have h1 := fall_fac k (n - k)
  have h2 := fall_fac k 0
  have h3 := cmb_fac (n - k) k
  rw [show n - k + k = n by omega] at h1 h3
  rw [Nat.zero_add] at h2
  have e2 : Builtin.Math.fallingProduct (k : Int) k = (fac k : Int) := by rw [← h2]; show _ = _ * ((1 : Nat) : Int); rw [Int.natCast_one, Int.mul_one]
  have p1 := fac_pos k
  have p2 := fac_pos (n - k)
  have e1 : Builtin.Math.fallingProduct (n : Int) k = (cmb n k : Int) * (fac k : Int) := by
    refine Int.eq_of_mul_eq_mul_right (show ((fac (n - k) : Nat) : Int) ≠ 0 by omega) ?_
    rw [h1, ← h3, Int.mul_assoc, Int.natCast_mul, Int.natCast_mul]
  rw [e1, e2]
  exact Int.mul_ediv_cancel _ (by omega)
theorem comb_meets (n k : Nat) (hk : k ≤ n) (hn : n ≤ 1000) (t u : Tok) : Gives (Builtin.«math.comb» ⟨[.int (n : Int) t, .int (k : Int) u], []⟩) (.int (cmb n k : Int)) := by
  have e : min (k : Int) ((n : Int) - (k : Int)) = ((min k (n - k) : Nat) : Int) := by omega
  have hm : cmb n (min k (n - k)) = cmb n k := by
    by_cases q : k ≤ n - k
    · rw [Nat.min_eq_left q]
    · rw [Nat.min_eq_right (by omega), cmb_sym hk]
  have e2 := fall_cmb n (min k (n - k)) (by omega)
  have hb : (Builtin.Math.fallingProduct (n : Int) (min (k : Int) ((n : Int) - (k : Int))).toNat / Builtin.Math.fallingProduct (min (k : Int) ((n : Int) - (k : Int))) (min (k : Int) ((n : Int) - (k : Int))).toNat) = (cmb n k : Int) := by
    rw [e, Int.toNat_natCast, e2, hm]
  have := comb_run (n : Int) t (k : Int) u (by omega) (by omega) (by omega) (by omega) (by
    rw [hb]
    have hc := cmb_le n k
    show (cmb n k).log2 < bitsLine
    refine Nat.lt_of_lt_of_le (Nat.lt_of_le_of_lt (Nat.le_trans (show (cmb n k).log2 ≤ (2 ^ n).log2 from ?_) (Nat.le_of_eq (Nat.log2_two_pow))) (show n < 1001 by omega)) (by decide)
    by_cases z : cmb n k = 0
    · rw [z]; exact Nat.zero_le _
    · rw [Nat.log2_two_pow]
      have := (Nat.log2_lt z).mpr (show cmb n k < 2 ^ (n + 1) by rw [Nat.pow_succ]; have := Nat.one_le_two_pow (n := n); omega)
      omega)
  rw [hb] at this
  exact this
def rComb : List V → Hp → VK → Prop := fun vs H Q => ∃ n k : Nat, vs = [.int n, .int k] ∧ k ≤ n ∧ n ≤ 1000 ∧ Q (.int (cmb n k : Nat)) H
theorem entry_comb : entryFor table "math.comb" = some Builtin.«math.comb» := entryFor_of_tree (by kernel_rfl)
theorem cr_comb {X : Cx} : CallR X (.builtin "math.comb") rComb := by
  intro pins s σ H vs us Q I r h
  obtain ⟨n, k, rfl, hk, hn, q⟩ := h
  obtain ⟨t, u, rfl⟩ := Vals.int2 r
  exact call_function_meets (by kernel_rfl) (by decide +kernel) entry_comb (by unfold argsOk; kernel_rfl) (comb_meets n k hk hn t u).meets ⟨.int _, H, I.tok _, ⟨_, rfl⟩, q⟩
end Xk
local macro_rules | `(tactic| fail "ww1") => `(tactic| with_reducible first | refine Xk.n_sl3 ?_ | refine Xk.r_star ?_)

set_option Elab.async false
set_option linter.all false
set_option maxRecDepth 100000
set_option maxHeartbeats 20000000
namespace Xk
open PySem PySem.Spec PyProof.Rows L2
/-! ### defs that raise -/
section
variable {P : Program} {w : World} {K : PySem.W.Frag} {mg : Str → Option Value} {B : Heap} {n : Nat} {g : Addr} {fd : FuncData} {ps : List Str} {sp sp2 : Sp}
/-- what raises nothing, where something may -/
theorem FnG.lift (F : FnG P w K mg B L2.CX0 n g fd ps sp) : FnG P w K mg B (L2N.CX P w) n g fd ps sp :=
  ⟨F.cnt, fun A ou t H ar us vs Q E hG room env bi rv hs => codeAny_mono (F.go A ou t H ar us vs Q E hG room env bi rv hs) fun r s' y => by
    match r, y with
    | .error e, y => exact y.elim
    | .ok (.ret u), y => exact y
    | .ok .next, y => exact y
    | .ok .brk, y => exact y
    | .ok .cont, y => exact y⟩
theorem FnG.up {CX : CXT} {m : Nat} (F : FnG P w K mg B CX n g fd ps sp) (h : n ≤ m) : FnG P w K mg B CX m g fd ps sp :=
  ⟨F.cnt, fun A ou t H ar us vs Q E hG room => F.go A ou t H ar us vs Q E hG (room.mono h)⟩
/-- either promise -/
def spOr (sp sp2 : Sp) : Sp := fun vs H Q E => sp vs H Q E ∨ sp2 vs H Q E
theorem FnG.or {CX : CXT} (F : FnG P w K mg B CX n g fd ps sp) (F2 : FnG P w K mg B CX n g fd ps sp2) : FnG P w K mg B CX n g fd ps (spOr sp sp2) :=
  ⟨fun vs H Q E h => h.elim (F.cnt vs H Q E) (F2.cnt vs H Q E), fun A ou t H ar us vs Q E hG room env bi rv hs => hs.elim (F.go A ou t H ar us vs Q E hG room env bi rv) (F2.go A ou t H ar us vs Q E hG room env bi rv)⟩
end
section
variable {P : Program} {w : World} {K : PySem.W.Frag} {mg : Str → Option Value} {base : Heap}
/-- as okG, for a def that may raise -/
theorem okX {x qual : Str} {st : Stmt} {f : Addr} {fd : FuncData} {N ps : List Str} {k : Nat} {sp : Sp} (F : Fun K x qual st f fd) (S : FnScope N ps (defScope st)) (cnt : ∀ vs H Q E, sp vs H Q E → vs.length = ps.length)
    (body : ∀ (cdv : Value) (A : Around) (ou : List Env) (t : Shared) (H : Hp) (vs : List V) (Q : VK) (E : XK), A.guards = some [] → Room k (A.deeper (envOfC qual (defScope st) t.heap.objs.size f cdv)) → sp vs H Q E →
      ∃ r, PSs (cxOf (L2N.CX P w) P w K mg base N qual (defScope st) f cdv A ou t H E) (defBody st) r ∧ r ⟨fun _ H' => Q .non H', Q, fun _ _ => False, fun _ _ => False⟩ (L2.start N vs) H) : FnG P w K mg base (L2N.CX P w) (k + 1) f fd ps sp := by
  obtain ⟨oc, od, kV, doc, pm, an, cdv, ct, osl, rfl, lk, hcd⟩ := F.ex
  exact fnG_of lk hcd S cnt fun A ou t H vs Q E hG hr hsp => body cdv A ou t H vs Q E hG hr hsp
end
/-! ### the call of such a def -/
section
variable {X : Cx} {W : WX} {n : Nat} {g : Addr} {fd : FuncData} {ps ks : List Str} {sp : Sp} {x : Str} {p pos : Pos} {e : Expr} {es : List Expr} {kws : List Keyword} {t tk : TA}
theorem endX {pins : List (Addr × Obj)} {σ : L2.St} {H : Hp} {s s' : Shared} {Q : VK} {r : Result} (tk : L2N.Takes X W) (I : Inv X pins σ H s)
    (z : CR (L2N.CX X.prog X.w) X.stack X.prog X.w H s Q (WE W σ) r s') :
    (match r with | .ok (.ret u) => EP X pins σ Q u s' | .ok _ => False | .error er => X.xe er s') := by
  match r, z with
  | .error er, z => exact L2N.passAt tk σ pins H s er s' I z
  | .ok (.ret u), z => exact I.after z
  | .ok .next, z => exact z.elim
  | .ok .brk, z => exact z.elim
  | .ok .cont, z => exact z.elim
theorem goX {pins : List (Addr × Obj)} {σ : L2.St} {H : Hp} {s : Shared} {Q : VK} {us : List Value} {vs : List V} (F : FnG X.prog X.w X.K X.mg X.base (L2N.CX X.prog X.w) n g fd ps sp)
    (hG : X.A.guards = some []) (room : Room n X.A) (bi : Binds X.K fd ps []) (tk : L2N.Takes X W) (I : Inv X pins σ H s) (rv : Vals vs us) (z : sp vs H Q (WE W σ)) :
    wpAny (model X.prog X.w) X.A (PySem.call (.ref g) us) (EP X pins σ Q) X.xe s := by
  have hlen : us.length = ps.length := rv.length ▸ F.cnt _ _ _ _ z
  have b := bi s us I.kIn (by rw [List.append_nil]; exact hlen)
  rw [List.append_nil] at b
  exact wpAny_call (codeAny_mono (F.go X.A X.stack s H ⟨us, []⟩ _ _ Q (WE W σ) hG room I.env0 b rv z) fun r s' y => by
    have := endX tk I y
    revert this
    cases r with
    | error _ => exact id
    | ok fl => cases fl <;> exact id)
def tCallX (sp : Sp) (W : WX) (t : TA) : TE := fun σ H Q => t σ H fun vs H1 => sp vs H1 Q fun cls d H' => W cls d σ H'
theorem pe_callX (F : FnG X.prog X.w X.K X.mg X.base (L2N.CX X.prog X.w) n g fd ps sp) (hG : X.A.guards = some []) (room : Room n X.A) (gx : Gl X x) (at' : X.mg x = some (.ref g)) (kp : PySem.W.keepIn X.K (.ref g) = true)
    (bi : Binds X.K fd ps []) (tk : L2N.Takes X W) (ha : PA X (e :: es) t) (hdb : (x == ("__debug__" : Str)) = false := by decide)
    (he : starEach (e :: es) X.env = (false, eval e X.env) :: starEach es X.env := by rfl) (hpl : (backTo pos (starEach es X.env)).any (·.1) = false := by rfl) : PE X (.Call (.Name x p) (e :: es) [] pos) (tCallX sp W t) :=
  ⟨fun pins s σ H Q I z => wpAny_Call_Name_kw (ld_glob I gx at'
    (PySem.W.callWith_K (h₀ := X.base) I.ok.mod.kin kp (thn (ha.run pos pins s σ H _ I z) fun us s1 ⟨vs, H1, I1, r, q⟩ => ⟨I1.kIn, goX F hG room bi tk I1 r q⟩) he hpl) hdb)⟩
variable {ff : List Value → List Value → List Value} {fV : List V → List V → List V}
theorem goXK {pins : List (Addr × Obj)} {σ : L2.St} {H : Hp} {s : Shared} {Q : VK} {us ws : List Value} {vs zs : List V} (F : FnG X.prog X.w X.K X.mg X.base (L2N.CX X.prog X.w) n g fd ps sp)
    (hG : X.A.guards = some []) (room : Room n X.A) (bi : KBinds X.K fd ps ks ff fV) (tk : L2N.Takes X W) (I : Inv X pins σ H s) (rv : Vals vs us) (rw' : Vals zs ws) (z : sp (fV vs zs) H Q (WE W σ)) :
    wpAny (model X.prog X.w) X.A (PySem.call (.ref g) us (ks.zip ws)) (EP X pins σ Q) X.xe s := by
  have rv2 := bi.rel rv rw'
  have hlen : (ff us ws).length = ps.length := rv2.length ▸ F.cnt _ _ _ _ z
  exact wpAny_call (codeAny_mono (F.go X.A X.stack s H ⟨us, ks.zip ws⟩ _ _ Q (WE W σ) hG room I.env0 (bi.to s us ws I.kIn hlen) rv2 z) fun r s' y => by
    have := endX tk I y
    revert this
    cases r with
    | error _ => exact id
    | ok fl => cases fl <;> exact id)
def tCallXK (sp : Sp) (fV : List V → List V → List V) (W : WX) (t tk : TA) : TE := fun σ H Q => t σ H fun vs H1 => tk σ H1 fun zs H2 => sp (fV vs zs) H2 Q fun cls d H' => W cls d σ H'
theorem pe_callXK0 (F : FnG X.prog X.w X.K X.mg X.base (L2N.CX X.prog X.w) n g fd ps sp) (hG : X.A.guards = some []) (room : Room n X.A) (gx : Gl X x) (at' : X.mg x = some (.ref g)) (kp : PySem.W.keepIn X.K (.ref g) = true)
    (bi : KBinds X.K fd ps ks ff fV) (tw : L2N.Takes X W) (hkw : PK X kws tk) (hdb : (x == ("__debug__" : Str)) = false := by decide)
    (all' : (backToKw pos (keywordEach kws X.env)).all (·.1.isSome) = true := by rfl) (nms : (backToKw pos (keywordEach kws X.env)).filterMap (·.1) = ks := by rfl)
    (hpl : ((backTo pos (starEach [] X.env)).any (·.1) || (backToKw pos (keywordEach kws X.env)).any (·.1.isNone)) = false := by rfl) :
    PE X (.Call (.Name x p) [] kws pos) (tCallXK sp fV W tNil tk) := by
  subst nms
  exact ⟨fun pins s σ H Q I z => wpAny_Call_Name_kw (ld_glob I gx at'
    (PySem.W.callWith_KW0 (h₀ := X.base) I.ok.mod.kin kp all' (thn (hkw.run pos pins s σ H _ I z) fun ws s2 ⟨zs, H2, I2, rz, q2⟩ => ⟨I2.kIn, goXK F hG room bi tw I2 .nil rz q2⟩) hpl) hdb)⟩
end
/-! ### an error class with one field, "value" -/
/-- x stands for the class at C; S is the class that clauses name -/
structure ErrC (K : PySem.W.Frag) (mg : Str → Option Value) (x : Str) (S C fI : Addr) : Prop where
  gC : mg x = some (.ref C)
  ox : OexC K C
  iC : PySem.W.findIn K (.ref C) "__init__" = some (some (.ref fI))
  tI : PySem.W.typeIn K (.ref fI) = some (.type "function")
  xf : XfC K C
  no : PySem.W.findIn K (.ref C) "value" = some none
  te : PySem.W.exmOne K (.ref C) (.ref S) = some true
/-- __init__(self, value): self.value = value -/
def spIni (K : PySem.W.Frag) (C : Addr) : Sp := fun vs H Q _ => ∃ (a : Addr) (y : V), vs = [.ref a, y] ∧ OexC K C ∧ PySem.W.findIn K (.ref C) "value" = some none ∧ H a = some (exo a C none) ∧
  ∀ dx, H dx = none → dx ≠ a → Q .non (upd (upd H dx (exd dx [(("value" : Str), y)])) a (exo a C (some dx)))
theorem ini_read {K : PySem.W.Frag} {C : Addr} {vs : List V} {H : Hp} {Q : VK} {E : XK} (h : spIni K C vs H Q E) :
    tSeq (tOst K "value" (tVar 0) (tVar 1)) tNext { nx := fun _ H' => Q .non H', rt := Q } (L2.start ["self", "value"] vs) H := by
  obtain ⟨a, y, rfl, T, no, e, q⟩ := h
  exact ⟨_, rfl, _, rfl, a, C, rfl, T, no, .inl ⟨e, fun dx n ne => q dx n ne⟩⟩
/-- C(e) -/
def tMkV (C : Addr) (ta : TA) : L2.St → Hp → XK → Prop := fun σ H Q => ta σ H fun vs H1 => ∃ y, vs = [y] ∧ ∀ d, H1 d = none → Q (.ref C) (some d) (upd H1 d (.xd [(("value" : Str), y)]))
section
variable {X : Cx} {W : WX} {x : Str} {S C fI : Addr} {k : Nat} {fd : FuncData} {e : Expr} {ta : TA} {p pos pos2 : Pos}
/-- C(e), by its own __init__, where nothing is handled -/
theorem pmk_val (T : ErrC X.K X.mg x S C fI) (F1 : FnOk X.prog X.w X.K X.mg X.base L2.CX0 k fI fd ["self", "value"] (spIni X.K C)) (hr : Room (k + 1) X.A) (hb : Binds X.K fd ["self", "value"] []) (hg : Gl X x) (ha : PA X [e] ta)
    (hdb : (x == ("__debug__" : Str)) = false := by decide) (he : starEach (e :: []) X.env = (false, eval e X.env) :: starEach [] X.env := by rfl) (hpl : (backTo pos (starEach [] X.env)).any (·.1) = false := by rfl) :
    L2N.PMk X (.Call (.Name x p) [e] [] pos) (tMkV C ta) := by
  intro pins s σ H Q I z
  obtain ⟨_, _, _, _, bm, _, _, _, _, _, _, _, _, _, _, look, refs⟩ := T.ox.cls
  refine wpAny_Call_Name_kw (ld_glob I hg T.gC (PySem.W.callWith_K (h₀ := X.base) I.ok.mod.kin T.ox.kC ?_ he hpl) hdb)
  refine thn (ha.run pos pins s σ H _ I z) fun us ⟨hp, gn, dr, tk, os⟩ ⟨vs, H1, J, rel, y, hy, q⟩ => ⟨J.kIn, ?_⟩
  subst hy
  cases rel with
  | @cons _ u _ us' ry rest =>
  cases rest
  show wpAny (model X.prog X.w) X.A (PySem.call (.ref C) [u]) _ _ _
  -- the exception, bare, and the tuple of what it was made of
  have grow : ∀ b o, hp.get? b = some o → ((hp.push (PySem.W.kdv_tup [u])).push (PySem.HandSPX.excO C hp.objs.size)).get? b = some o := fun b o g => Heap.get?_push_of_some _ (Heap.get?_push_of_some _ g)
  have here : ((hp.push (PySem.W.kdv_tup [u])).push (PySem.HandSPX.excO C hp.objs.size)).get? (hp.objs.size + 1) = some (PySem.HandSPX.excO C hp.objs.size) := by heap_get
  obtain ⟨a, ea⟩ : ∃ a, a = hp.objs.size + 1 := ⟨_, rfl⟩
  have above : hp.objs.size ≤ a := by omega
  have free : H1 a = none := J.hok.fresh above
  rw [← ea] at here
  have J2 : Inv X pins σ (upd H1 a (exo a C none)) ⟨(hp.push (PySem.W.kdv_tup [u])).push (PySem.HandSPX.excO C hp.objs.size), gn, dr, tk, os⟩ :=
    J.laid (t' := tk) (o := exo a C none) grow above (exo_ok here)
  have vals : Vals [V.ref a, y] [Value.ref a, u] := .cons rfl (.cons ry .nil)
  have pr : spIni X.K C [V.ref a, y] (upd H1 a (exo a C none)) (fun v H2 => v = .non ∧ ∃ d, H1 d = none ∧ d ≠ a ∧ H2 = upd (upd (upd H1 a (exo a C none)) d (exd d [(("value" : Str), y)])) a (exo a C (some d))) (fun _ _ _ => False) :=
    ⟨a, y, rfl, T.ox, T.no, upd_same, fun d hd ne => ⟨rfl, d, by rw [upd_ne ne] at hd; exact hd, ne, rfl⟩⟩
  have bd := hb _ [Value.ref a, u] J2.kIn rfl
  refine wpAny_call (PySem.HandSPX.call_own F.excBase_ValueError (fun Y => PySem.HandSPX.refsVE_contains Y bm refs) (J.kIn _ _ look) (PySem.W.looks_findIn J.kIn T.iC) (fun self => PySem.W.bind_fn J.kIn self T.tI) (by show 1 ≤ 16777216; decide) ?_)
  rw [← ea]
  refine codeAny_mono (F1.run _ X.stack _ _ ⟨[Value.ref a, u], []⟩ [Value.ref a, u] _ _ (fun _ _ _ => False) (hr.make C [u] []) (J2.env0.make C [u] []) bd vals pr) fun r ⟨h2, g2, d2, t2, o2⟩ res => ?_
  match r, res with
  | .error _, res => exact res.elim
  | .ok .next, res => exact res.elim
  | .ok .brk, res => exact res.elim
  | .ok .cont, res => exact res.elim
  | .ok (.ret v), ⟨x2, H2, os2, bare2, un2, hok2, rv, ⟨ex, d, hd, ne, eH⟩⟩ =>
    subst ex
    have ea2 : H2 a = some (exo a C (some d)) := by rw [eH]; exact upd_same
    have ed2 : H2 d = some (exd d [(("value" : Str), y)]) := by rw [eH, upd_ne ne]; exact upd_same
    obtain ⟨t0, G, J3, up, gone, obj, nx⟩ := mk_end0 (d2 := d2) (t2 := t2) J above grow un2 hok2 os2 bare2 ea2 ed2 hd
    refine ⟨rv, a, _, _, ⟨G, g2, d2, t2, o2⟩, _, .ref C, some d, rfl, J3, up, gone, obj, ⟨rfl, rfl, fun ws hw => by cases hw; rfl⟩, rfl, rfl, nx, rfl, bare2, raises_own T.ox.exC T.ox.tyC, ?_⟩
    have eq : upd (del H2 a) d (.xd [(("value" : Str), y)]) = upd H1 d (.xd [(("value" : Str), y)]) := by
      rw [eH]
      funext b
      by_cases hb : b = d
      · rw [hb, upd_same, upd_same]
      · rw [upd_ne hb, upd_ne hb]
        by_cases hc : b = a
        · rw [hc, del_same, free]
        · rw [del_ne hc, upd_ne hc, upd_ne hb, upd_ne hc]
    rw [eq]
    exact q d hd
/-- raise C(e) -/
def tRaiseV (C : Addr) (W : WX) (ta : TA) : TS := fun _ σ H => tMkV C ta σ H fun cls d H' => W cls d σ H'
theorem takesN0 {X : Cx} : L2N.Takes X (fun _ _ _ _ => False) := fun _ _ x => by
  obtain ⟨_, _, _, _, _, _, _, _, _, _, _, _, _, _, _, _, z⟩ := x
  exact z.elim
theorem ps_raiseV (hc : X.calm = true) (tk : L2N.Takes X W) (T : ErrC X.K X.mg x S C fI) (F1 : FnOk X.prog X.w X.K X.mg X.base L2.CX0 k fI fd ["self", "value"] (spIni X.K C)) (hr : Room (k + 1) X.A) (hb : Binds X.K fd ["self", "value"] []) (hg : Gl X x) (ha : PA X [e] ta)
    (hdb : (x == ("__debug__" : Str)) = false := by decide) (he : starEach (e :: []) X.env = (false, eval e X.env) :: starEach [] X.env := by rfl) (hpl : (backTo pos (starEach [] X.env)).any (·.1) = false := by rfl) :
    PS X (.Raise (some (.Call (.Name x p) [e] [] pos)) none pos2) (tRaiseV C W ta) := L2N.ps_raise hc tk (pmk_val T F1 hr hb hg ha hdb he hpl)
/-- e.f, e the exception that the suite holds, of any class -/
def tXfA (K : PySem.W.Frag) (a : Addr) (cls : Value) (d : Option Addr) (f : Str) (te : TE) : TE := fun σ H Q => te σ H fun x H1 => x = .ref a ∧ ∃ (C dd : Addr) (fs : List (Str × V)) (v : V), cls = .ref C ∧ d = some dd ∧ XfC K C ∧ PySem.W.findIn K (.ref C) f = some none ∧ H1 dd = some (.xd fs) ∧ fs.lookup f = some v ∧ Q v H1
theorem pe_xfA {q : Addr × Obj} (mem : q ∈ X.pn) {cls : Value} {d : Option Addr} {e : Expr} {te : TE} {pos : Pos} {n : Str}
    (hz : L2N.Zn cls d q.2) (hf : ∃ vs, q.2.data = .fields vs) (he : PE X e te) (hb : attributeBase e n X.env (eval e X.env) = eval e X.env := by rfl) :
    PE X (.Attribute e n pos) (tXfA X.K q.1 cls d n te) := by
  refine ⟨fun pins s σ H Q I z => attr_of hb (thn (he.run pins s σ H _ I z) fun u s1 ⟨x, H1, J, rx, ex, C, dd, fs, v, ec, ed, T, hno, ea, l, k⟩ => ?_)⟩
  subst ex ec ed
  obtain rfl : u = Value.ref q.1 := rx
  have stands := (J.pin q (List.mem_append_left _ mem)).1
  obtain ⟨mA, hns, hr⟩ : ObjOk X.prog X.w H1 s1.heap dd (.xd fs) := J.hok dd _ ea
  obtain ⟨od, ho, hl⟩ := lookIn_ns hns
  obtain ⟨u, hu, ru⟩ := RelO.some_of (v := v) (o := mA n) (l ▸ hr n)
  have at_ : PySem.W.InstAt s1.heap q.1 q.2 C (some od) := ⟨stands, hz.1, by obtain ⟨vs, hd⟩ := hf; unfold PySem.W.notCls; rw [hd], by rw [hz.2.1]; exact ho⟩
  exact HandSPX.exc_get J.kIn at_ T.ga T.gg T.exC (PySem.W.findObj_own T.hdC hno rfl (by rw [hl, hu])) (handed_of ru) ⟨v, H1, J.tok _, ru, k⟩
theorem pe_xfS {a : Addr} {oe : Obj} {cls : Value} {d : Option Addr} {pn : List (Addr × Obj)} {e : Expr} {te : TE} {pos : Pos} {n : Str}
    (hz : L2N.Zn cls d oe) (hf : ∃ vs, oe.data = .fields vs) (he : PE (X.suite a ((a, oe) :: pn)) e te) (hb : attributeBase e n X.env (eval e X.env) = eval e X.env := by rfl) :
    PE (X.suite a ((a, oe) :: pn)) (.Attribute e n pos) (tXfA X.K a cls d n te) := pe_xfA (q := (a, oe)) List.mem_cons_self hz hf he hb
end
section
variable {σ : L2.St} {H : Hp} {Q : VK} {W : WX} {sp : Sp} {t tk : TA} {fV : List V → List V → List V} {C : Addr} {D : Ends} {K : PySem.W.Frag} {a : Addr} {cls : Value} {d : Option Addr} {f : Str} {te : TE}
theorem r_callX (h : t σ H fun vs H1 => sp vs H1 Q fun cls d H' => W cls d σ H') : tCallX sp W t σ H Q := h
theorem r_callXK (h : t σ H fun vs H1 => tk σ H1 fun zs H2 => sp (fV vs zs) H2 Q fun cls d H' => W cls d σ H') : tCallXK sp fV W t tk σ H Q := h
theorem r_raiseV (h : t σ H fun vs H1 => ∃ y, vs = [y] ∧ ∀ d, H1 d = none → W (.ref C) (some d) σ (upd H1 d (.xd [(("value" : Str), y)]))) : tRaiseV C W t D σ H := h
theorem r_xfA (h : te σ H fun x H1 => x = .ref a ∧ ∃ (C dd : Addr) (fs : List (Str × V)) (v : V), cls = .ref C ∧ d = some dd ∧ XfC K C ∧ PySem.W.findIn K (.ref C) f = some none ∧ H1 dd = some (.xd fs) ∧ fs.lookup f = some v ∧ Q v H1) : tXfA K a cls d f te σ H Q := h
end
end Xk
local macro_rules | `(tactic| fail "ww1") => `(tactic| with_reducible first | refine Xk.r_callX ?_ | refine Xk.r_callXK ?_ | refine Xk.r_raiseV ?_ | refine Xk.r_xfA ?_)

set_option Elab.async false
set_option linter.all false
set_option maxRecDepth 100000
set_option maxHeartbeats 20000000
namespace Xk
open PySem PySem.Spec PyProof.Rows L2
/-! ### a list's end, whatever is handled -/
section
variable {prog : Program} {w : World} {A : Around} {E : Value → Shared → Prop} {s : Shared}
theorem list_end_hot {it l x1 : Addr} {i : Nat} {vs : Array Value} {Q : Option Value → Shared → Prop} (hot : HotX.HotAt A x1 s.heap) (hit : s.heap.IsListIter it l i) (hl : s.heap.IsList l vs) (none_ : vs[i]? = none) (hne : it ≠ x1)
    (hQ : ∀ h', (∀ b o, b ≠ it → s.heap.get? b = some o → h'.get? b = some o) → Q none { s with heap := h' }) : wpAny (model prog w) A (pyNext (.ref it)) Q E s := by
  obtain ⟨hand, o1, w1, g1, f1, c1⟩ := hot
  obtain ⟨oi, gi, ci, fi⟩ := id hit
  obtain ⟨ol, gl, _, cap, fl⟩ := hl
  unfold pyNext
  refine wpAny_bind (wpAny_attempt (wpAny_callSpecial?_slot (name := Str.ofString "__next__") hit.typeIs slot_listiter_next (wpAny_call_entry slot_listiter_next hit.typeIs entry_listiter_next ?_ (args_listiter_next _))))
  show wpAny _ _ (field (.ref it) 0 >>= _) _ _ s
  refine wpAny_bind (wpAny_field gi fi (x := .ref l) rfl ?_)
  show wpAny _ _ (if (Value.ref l == Value.none) = true then _ else _) _ _ s
  rw [show (Value.ref l == Value.none) = false from rfl, if_neg Bool.false_ne_true]
  show wpAny _ _ (field (.ref it) 1 >>= _) _ _ s
  refine wpAny_bind (wpAny_field gi fi (x := .int i 0) rfl ?_)
  show wpAny _ _ (seqItems? (.ref l) >>= _) _ _ s
  refine wpAny_bind (wpAny_seqItems gl fl ?_)
  simp only [Int.toNat_natCast, none_]
  refine wpAny_bind (wpAny_rule (wpAny_bind (wpAny_setField gi fi (by simp) ?_)))
  show wpAny _ _ (newExc (.type "StopIteration") [] >>= _) _ _ _
  refine wpAny_bind ?_
  simp only [newExc, newTuple]
  refine wpAny_bind (wpAny_newObj_type ?_ (by size_fits))
  refine wpAny_bind (m := firstArgMember _ _) (wpAny_of_eq (a := Value.none) (by first | rfl | (simp only [firstArgMember]; rfl)) ?_)
  refine wpAny_newObj_type ?_ (by size_fits)
  have old : ∀ {b o}, b ≠ it → s.heap.get? b = some o → (s.heap.update it (Obj.mapFields fun x => x.setIfInBounds 0 Value.none)).get? b = some o := fun hb g => (Heap.get?_update_other _ _ (Ne.symm hb)).trans g
  have e1 := old (Ne.symm hne) g1
  refine HotX.raiseNew_hot ⟨hand, o1, w1, Heap.get?_push_of_some _ (Heap.get?_push_of_some _ e1), f1, c1⟩ (Nat.ne_of_lt (Heap.lt_size (Heap.get?_push_of_some _ e1))) (Heap.get?_push_size _ rfl) rfl (by first | (simp; done) | (simp; omega) | (simp only [Array.size_append]; simp; omega)) ?_
  refine wpAny_bind (wpAny_isInstance (T := "StopIteration") (b := true) ⟨_, Heap.get?_update_self _ (Heap.get?_push_size _ rfl) rfl, rfl⟩ isSubtype_stop ?_)
  refine wpAny_pure (hQ _ fun b o hb g => ?_)
  have e2 := old hb g
  rw [Heap.get?_update_other _ _ (Nat.ne_of_gt (Heap.lt_size (Heap.get?_push_of_some _ e2)))]
  exact Heap.get?_push_of_some _ (Heap.get?_push_of_some _ e2)
/-- the same of a tuple's walk -/
theorem tuple_end_hot {it l x1 : Addr} {i : Nat} {vs : Array Value} {Q : Option Value → Shared → Prop} (hot : HotX.HotAt A x1 s.heap) (hit : s.heap.IsTupleIter it l i) (hl : s.heap.IsTuple l vs) (none_ : vs[i]? = none) (hne : it ≠ x1)
    (hQ : ∀ h', (∀ b o, b ≠ it → s.heap.get? b = some o → h'.get? b = some o) → Q none { s with heap := h' }) : wpAny (model prog w) A (pyNext (.ref it)) Q E s := by
  obtain ⟨hand, o1, w1, g1, f1, c1⟩ := hot
  obtain ⟨oi, gi, ci, fi⟩ := id hit
  obtain ⟨ol, gl, _, cap, fl⟩ := hl
  unfold pyNext
  refine wpAny_bind (wpAny_attempt (wpAny_callSpecial?_slot (name := Str.ofString "__next__") hit.typeIs F.slot_tuple_iterator_next (wpAny_call_entry F.slot_tuple_iterator_next hit.typeIs F.entry_tuple_iterator_next ?_ (F.args_tuple_iterator_next_1 _))))
  show wpAny _ _ (field (.ref it) 0 >>= _) _ _ s
  refine wpAny_bind (wpAny_field gi fi (x := .ref l) rfl ?_)
  show wpAny _ _ (if (Value.ref l == Value.none) = true then _ else _) _ _ s
  rw [show (Value.ref l == Value.none) = false from rfl, if_neg Bool.false_ne_true]
  show wpAny _ _ (field (.ref it) 1 >>= _) _ _ s
  refine wpAny_bind (wpAny_field gi fi (x := .int i 0) rfl ?_)
  show wpAny _ _ (seqItems? (.ref l) >>= _) _ _ s
  refine wpAny_bind (wpAny_seqItems gl fl ?_)
  simp only [Int.toNat_natCast, none_]
  refine wpAny_bind (wpAny_rule (wpAny_bind (wpAny_setField gi fi (by simp) ?_)))
  show wpAny _ _ (newExc (.type "StopIteration") [] >>= _) _ _ _
  refine wpAny_bind ?_
  simp only [newExc, newTuple]
  refine wpAny_bind (wpAny_newObj_type ?_ (by size_fits))
  refine wpAny_bind (m := firstArgMember _ _) (wpAny_of_eq (a := Value.none) (by first | rfl | (simp only [firstArgMember]; rfl)) ?_)
  refine wpAny_newObj_type ?_ (by size_fits)
  have old : ∀ {b o}, b ≠ it → s.heap.get? b = some o → (s.heap.update it (Obj.mapFields fun x => x.setIfInBounds 0 Value.none)).get? b = some o := fun hb g => (Heap.get?_update_other _ _ (Ne.symm hb)).trans g
  have e1 := old (Ne.symm hne) g1
  refine HotX.raiseNew_hot ⟨hand, o1, w1, Heap.get?_push_of_some _ (Heap.get?_push_of_some _ e1), f1, c1⟩ (Nat.ne_of_lt (Heap.lt_size (Heap.get?_push_of_some _ e1))) (Heap.get?_push_size _ rfl) rfl (by first | (simp; done) | (simp; omega) | (simp only [Array.size_append]; simp; omega)) ?_
  refine wpAny_bind (wpAny_isInstance (T := "StopIteration") (b := true) ⟨_, Heap.get?_update_self _ (Heap.get?_push_size _ rfl) rfl, rfl⟩ isSubtype_stop ?_)
  refine wpAny_pure (hQ _ fun b o hb g => ?_)
  have e2 := old hb g
  rw [Heap.get?_update_other _ _ (Nat.ne_of_gt (Heap.lt_size (Heap.get?_push_of_some _ e2)))]
  exact Heap.get?_push_of_some _ (Heap.get?_push_of_some _ e2)
/-- a tuple is taken apart while an exception is handled -/
theorem unpack_hot {t x1 : Addr} {vs : Array Value} {Q : Unit → Shared → Prop} {elts : List Expr} {k : Nat} {pos : Pos} {env : Env} (hot : HotX.HotAt A x1 s.heap) (ht : s.heap.IsTuple t vs)
    (hn : (assignEach elts env).length = vs.size) (hst : (assignEach elts env).findIdx? (·.1) = none)
    (hQ : ∀ h', (∀ b o, s.heap.get? b = some o → h'.get? b = some o) → wpAny (model prog w) A (assignInOrder ((assignEach elts env).map (·.2)) vs.toList) Q E { s with heap := h' }) :
    wpAny (model prog w) A (assign (.Tuple elts k pos) env (.ref t)) Q E s := by
  obtain ⟨o0, g0, _, _, d0⟩ := id ht
  have away : t ≠ s.heap.objs.size := Nat.ne_of_lt (Heap.lt_size g0)
  obtain ⟨hand, o1, w1, g1, f1, c1⟩ := hot
  have away1 : x1 ≠ s.heap.objs.size := Nat.ne_of_lt (Heap.lt_size g1)
  rw [arm_assign_Tuple]
  refine wpAny_bind (wpAny_standAt ?_)
  unfold unpack
  rw [hn, hst]
  refine wpAny_bind (wpAny_holding ?_)
  unfold unpackItems notIterableAtAll
  refine wpAny_bind (wpAny_bind (wpAny_specialOf ht.typeIs F.slot_tuple_iter.lookup (wpAny_pure ?_)))
  rw [if_neg (by simp)]
  refine wpAny_bind (wpAny_holding (wpAny_pyIter_tuple ht ?_))
  refine wpAny_bind (wpAny_holding (wpAny_draw_tuple away vs.size 0 _ _ ⟨_, Heap.get?_push_size _ rfl, rfl, rfl⟩ (ht.push _) (by omega) fun h1 st1 same1 => ?_))
  rw [List.drop_zero, List.take_of_length_le (by simp)]
  rw [if_neg (by simp)]
  have ht1 : h1.IsTuple t vs := (ht.push _).extBut same1.extBut away
  have gx : h1.get? x1 = some o1 := (same1.2 x1 away1).trans (Heap.get?_push_of_some _ g1)
  refine wpAny_bind (wpAny_holding (tuple_end_hot (s := { s with heap := h1 }) ⟨hand, o1, w1, gx, f1, c1⟩ st1 ht1 (by simp) (Ne.symm away1) fun h2 up => ?_))
  simp only [Option.isSome_none, Bool.false_eq_true, if_false]
  exact wpAny_pure (hQ h2 fun b o g => up b o (Nat.ne_of_lt (Heap.lt_size g)) ((same1.2 b (Nat.ne_of_lt (Heap.lt_size g))).trans (Heap.get?_push_of_some _ g)))
end
/-! ### a caught exception stands by -/
/-- q is the exception that is handled, or nothing is -/
def ByQ (A : Around) (q : Addr × Obj) : Prop := A.handled = none ∨ A.handled = some (.ref q.1)
/-- what is known of a caught exception -/
structure Caught (X : Cx) (q : Addr × Obj) (cls : Value) (d : Option Addr) : Prop where
  mem : q ∈ X.pn
  by_ : ByQ X.A q
  zn : L2N.Zn cls d q.2
  fld : ∃ vs, q.2.data = .fields vs
section
variable {X : Cx} {pins : List (Addr × Obj)} {σ : L2.St} {H : Hp} {s : Shared} {q : Addr × Obj} {cls : Value} {d : Option Addr}
/-- the end of a list's walk in a comprehension's block, the exception still there -/
theorem list_end_any {A : Around} {E : Value → Shared → Prop} {it l : Addr} {i : Nat} {vs : Array Value} {Q : Option Value → Shared → Prop} (hb : ByQ A q) (hz : L2N.Zn cls d q.2) (hf : ∃ vs, q.2.data = .fields vs) (there : s.heap.get? q.1 = some q.2)
    (hit : s.heap.IsListIter it l i) (hl : s.heap.IsList l vs) (none_ : vs[i]? = none) (hne : it ≠ q.1) (hQ : ∀ h', (∀ b o, b ≠ it → s.heap.get? b = some o → h'.get? b = some o) → Q none { s with heap := h' }) :
    wpAny (model X.prog X.w) A (pyNext (.ref it)) Q E s := by
  rcases hb with hd | hd
  · exact wpAny_pyNext_list_end hd hit hl none_ fun h' ext => hQ h' fun b o ne g => ext b o ne g
  · obtain ⟨ws, fw⟩ := hf
    exact list_end_hot ⟨hd, q.2, ws, there, fw, hz.2.2 ws fw⟩ hit hl none_ hne hQ
/-- a comprehension's block, the exception kept in sight -/
abbrev blkE (X : Cx) (s : Shared) (H : Hp) (scope : Scope) (cenv : Env) (fp : List Addr) (q : Addr × Obj) : Cx := { X.blk s H scope cenv fp with pn := [q] }
theorem toBlkE {X : Cx} {s0 : Shared} {H0 : Hp} {scope : Scope} {cenv : Env} {fp : List Addr} {q : Addr × Obj} {σ : L2.St} {H : Hp} {s : Shared} (I : Inv (X.blk s0 H0 scope cenv fp) [] σ H s)
    (h : s.heap.get? q.1 = some q.2 ∧ H q.1 = none ∧ q.1 ≠ cenv.locals ∧ q.1 ∉ frs X.stack ∧ ∀ v, q.2.data ≠ .cell v) : Inv (blkE X s0 H0 scope cenv fp q) [] σ H s :=
  ⟨⟨I.ok.mod, I.ok.kind, I.ok.glob, I.ok.blt, I.ok.above, I.ok.inj, I.ok.has, I.ok.cab, I.ok.hd, I.ok.frames, I.ok.stk, I.ok.exf, I.ok.bs, I.ok.bsz, I.ok.noex, I.ok.exfs, I.ok.funs, I.ok.frf⟩, I.os, I.bare, I.base, I.loc, I.cell, I.free, I.freeC,
    fun p hp => by rw [List.mem_singleton.mp (show p ∈ [q] from hp)]; exact h, I.hok, I.len⟩
theorem Caught.blk {X : Cx} {s0 : Shared} {H0 : Hp} {scope : Scope} {cenv : Env} {fp : List Addr} {q : Addr × Obj} {cls : Value} {d : Option Addr} (C : Caught X q cls d) : Caught (blkE X s0 H0 scope cenv fp q) q cls d :=
  ⟨List.mem_singleton.mpr rfl, C.by_, C.zn, C.fld⟩
/-- a tuple taken apart, where an exception may be handled -/
theorem pg_tupE {es : List Expr} {k : Nat} {g : TGs} {pos : Pos} (n : Nat) (C : Caught X q cls d) (h : PGs X es g) (hn : (assignEach es X.env).length = n := by rfl) (hst : (assignEach es X.env).findIdx? (·.1) = none := by rfl) {K : PySem.W.Frag} (hK : X.K = K := by rfl) :
    PG X (.Tuple es k pos) (gTup K n g) := by
  subst hK
  refine ⟨fun pins s σ H v u Q I r ⟨a, xs, e1, hq, hl, z⟩ => ?_⟩
  subst e1
  cases r
  obtain ⟨its, rv, ht, _⟩ := I.tuple hq
  have size : (assignEach es X.env).length = its.toArray.size := by simp [hn, ← hl, rv.length]
  have go : ∀ h', (∀ b o, s.heap.get? b = some o → h'.get? b = some o) → wpAny (model X.prog X.w) X.A (assignInOrder ((assignEach es X.env).map (·.2)) its.toArray.toList) (fun _ s' => ∃ σ' H', Inv X pins σ' H' s' ∧ Q σ' H') X.xe { s with heap := h' } :=
    fun h' up => h.run pins _ σ H xs _ Q (I.kept (t' := s.toks) up) (by simpa using rv) z
  rcases C.by_ with hd | hd
  · exact assign_Tuple_tuple hd ht size hst fun h' ext => go h' fun b o g => ext b o (Nat.ne_of_lt (Heap.lt_size g)) g
  · obtain ⟨ws, fw⟩ := C.fld
    exact unpack_hot ⟨hd, q.2, ws, (I.pin q (List.mem_append_left _ C.mem)).1, fw, C.zn.2.2 ws fw⟩ ht size hst go
/-- name = [elt for target in a list if ..], on one line, where an exception may be handled -/
theorem ps_setLcE {i : Nat} {y : Str} {py : Pos} {elt tg iter : Expr} {ifs : List Expr} {scope : Scope} {own : List (Str × Nat)} {pos spos : Pos} {tl : TE} {g : TG} {tt : TT} {te : TE} (cg : Caught X q cls d) (hN : X.N.Nodup) (hy : X.N[i]? = some y) (hyl : X.env.scope.names.lookup y = some .local)
    (hsw : swapsWith (.ListComp elt [⟨tg, iter, ifs, 0⟩] scope pos) (some (.Name y py)) spos.line X.env = pure true) (hi : PE X iter tl) (ok : BlkOk X.N X.env.scope scope own)
    (hg : ∀ (s : Shared) (H : Hp) (C : Addr) (cl : List (Str × Addr)) (fp : List Addr), PG (blkE X s H scope (compEnvC scope cl C X.env) fp q) tg g) (ht : ∀ (s : Shared) (H : Hp) (C : Addr) (cl : List (Str × Addr)) (fp : List Addr), PTs (blkE X s H scope (compEnvC scope cl C X.env) fp q) ifs tt)
    (he : ∀ (s : Shared) (H : Hp) (C : Addr) (cl : List (Str × Addr)) (fp : List Addr), PE (blkE X s H scope (compEnvC scope cl C X.env) fp q) elt te) (hs : ∀ x, foldedSetIterable iter X.env x = pure x := by intro _; rfl) :
    PS X (.Assign [.Name y py] (.ListComp elt [⟨tg, iter, ifs, 0⟩] scope pos) spos) (tAsg (tLc (iList X.K tl) g tt te (own.map (·.2))) (gName i)) := by
  refine ⟨fun pins s σ H D I z => ?_⟩
  have vars : ∀ n ∈ scope.names, n.2 = .free → ∃ c, X.env.cells.lookup n.1 = some c := fun n hn e => (ok.free n hn e).elim (fun k => I.ok.has _ (.inl k)) fun k => I.ok.has _ (.inr k)
  rw [exec_Assign_Name_used _ _ _ _ hsw]
  refine wpAny_bind (wpAny_standAt (wpAny_bind ?_))
  show wpAny _ X.A (do let _ ← comprehension (.ListComp elt [⟨tg, iter, ifs, 0⟩] scope pos) scope X.env (firstIterPos [⟨tg, iter, ifs, 0⟩] pos) (newList []) false (eval iter X.env) (some (assign (.Name y py) X.env))) _ _ s
  refine wpAny_bind (thn ?_ fun _ s' (fin : SP X pins D .next s') => wpAny_pure (wpAny_pure fin))
  refine wpAny_comprehension_free rfl hs (closure_ok vars) ok.kind (fun n hn e => by rw [ok.uniq n hn, e]) (thn (hi.run pins s σ H _ I z) fun v0 s1 ⟨v, H1, I1, rv, k⟩ => ?_)
  obtain ⟨l, rfl, ⟨xs, hxs⟩, k⟩ := k
  obtain rfl : v0 = Value.ref l := rv
  obtain ⟨its, rel, lst, hz⟩ := I1.list hxs
  refine wpAny_pyIter_list lst.isList ?_
  -- the iterator
  obtain ⟨it, eit⟩ : ∃ it, it = s1.heap.objs.size := ⟨_, rfl⟩
  generalize e2 : ({ s1 with heap := s1.heap.push { cls := .type "list_iterator", data := .fields #[.ref l, .int 0 0] } } : Shared) = s2
  have h2 : s2.heap = s1.heap.push { cls := .type "list_iterator", data := .fields #[.ref l, .int 0 0] } := by rw [← e2]
  have I2 : Inv X pins σ H1 s2 := by rw [← e2]; exact I1.kept (t' := s1.toks) fun b o g => Heap.get?_push_of_some _ g
  have at2 : s2.heap.IsListIter it l 0 := by rw [h2, eit]; exact ⟨_, Heap.get?_push_size _ rfl, rfl, rfl⟩
  have fp2 : FpOk X pins H1 it := I1.fpOk (by rw [eit]; exact Nat.le_refl _) (I1.hok.fresh (by rw [eit]; exact Nat.le_refl _))
  rw [← eit]
  -- the new list
  refine wpAny_newObj_type (newEnv_comp ?_) (by show 0 ≤ sizeLine; decide)
  obtain ⟨L, eL⟩ : ∃ L, L = s2.heap.objs.size := ⟨_, rfl⟩
  rw [← eL]
  have hL : H1 L = none := I2.hok.fresh (Nat.le_of_eq eL.symm)
  obtain ⟨W, ⟨m0, w0⟩, turn⟩ := k L hL
  generalize e3 : ({ s2 with heap := s2.heap.push { cls := .type "list", data := .seq ([] : List Value).toArray } } : Shared) = s3
  have h3 : s3.heap = s2.heap.push { cls := .type "list", data := .seq ([] : List Value).toArray } := by rw [← e3]
  have I3 : Inv X pins σ (upd H1 L (.lst [])) s3 := by
    rw [← e3]
    exact I2.laid (t' := s2.toks) (o := .lst []) (fun b o g => Heap.get?_push_of_some _ g) (Nat.le_of_eq eL.symm) ⟨Nat.zero_le _, [], 0, .nil, by rw [eL]; exact Heap.get?_push_size _ rfl⟩
  have ltit : it < s2.heap.objs.size := by obtain ⟨o, g, _⟩ := at2; exact Heap.lt_size g
  have neL : it ≠ L := by rw [eL]; exact Nat.ne_of_lt ltit
  have at3 : s3.heap.IsListIter it l 0 := at2.at fun o g => by rw [h3]; exact Heap.get?_push_of_some _ g
  have lt3 : it < s3.heap.objs.size := by rw [h3, Heap.size_push]; exact Nat.lt_succ_of_lt ltit
  generalize eH : upd H1 L (.lst []) = H3 at I3 w0
  have fp3 : FpOk X pins H3 it := ⟨by rw [← eH, upd_ne neL]; exact fp2.1, fp2.2⟩
  have fps : ∀ b ∈ [it], FpOk X pins H3 b ∧ b < s3.heap.objs.size := fun b hb => by rw [List.mem_singleton.mp hb]; exact ⟨fp3, lt3⟩
  -- the block
  have I4 := block_start I3 ok hN fps
  have rg := hg s3 H3 s3.heap.objs.size (cellsFrom (s3.heap.objs.size + 1) scope.names (cloFrom X.env.cells scope.names [])) [it]
  have rt := ht s3 H3 s3.heap.objs.size (cellsFrom (s3.heap.objs.size + 1) scope.names (cloFrom X.env.cells scope.names [])) [it]
  have re := he s3 H3 s3.heap.objs.size (cellsFrom (s3.heap.objs.size + 1) scope.names (cloFrom X.env.cells scope.names [])) [it]
  show codeAny _ _ (.compStart (.ListComp elt [⟨tg, iter, ifs, 0⟩] scope pos) 0 (.ref it) (.ref L) (compEnvC scope (cellsFrom (s3.heap.objs.size + 1) scope.names (cloFrom X.env.cells scope.names [])) s3.heap.objs.size X.env)) _ { s3 with heap := pushCells (s3.heap.push { cls := .type "dict", data := .dict #[] }) scope.names }
  generalize ece : compEnvC scope (cellsFrom (s3.heap.objs.size + 1) scope.names (cloFrom X.env.cells scope.names [])) s3.heap.objs.size X.env = ce at I4 rg rt re ⊢
  have loc : ce.locals = s3.heap.objs.size := by rw [← ece]; rfl
  generalize e4 : ({ s3 with heap := pushCells (s3.heap.push { cls := .type "dict", data := .dict #[] }) scope.names } : Shared) = s4 at I4 ⊢
  have at4 : s4.heap.IsListIter it l 0 := at3.at fun o g => by rw [← e4]; exact pushCells_keeps _ _ _ _ (Heap.get?_push_of_some _ g)
  -- the exception stands by all through
  have pin3 := I3.pin q (List.mem_append_left _ cg.mem)
  have hqit : it ≠ q.1 := fun e => fp3.2.2.2.2.2 q (List.mem_append_left _ cg.mem) e.symm
  have hqS : q.1 ∉ frs X.stack := fun hm => by
    rcases List.mem_cons.mp (I3.stkSub q.1 hm) with e | e
    · exact pin3.2.2.1 e
    · exact pin3.2.2.2.1 e
  have I4 : Inv (blkE X s3 H3 scope ce [it] q) [] (wipe σ (own.map (·.2))) H3 s4 := toBlkE I4 ⟨I4.base.keep q.1 q.2 pin3.1 pin3.2.1 hqS (fun hm => hqit (List.mem_singleton.mp hm).symm), pin3.2.1, by rw [loc]; exact Nat.ne_of_lt (Heap.lt_size pin3.1), hqS, pin3.2.2.2.2⟩
  have stands : ∀ {σ' : L2.St} {H' : Hp} {s' : Shared}, Inv (blkE X s3 H3 scope ce [it] q) [] σ' H' s' → s'.heap.get? q.1 = some q.2 := fun J => (J.pin q (List.mem_append_left _ (List.mem_singleton.mpr rfl))).1
  have fpB : ∀ {σ' : L2.St} {H' : Hp} {s' : Shared}, Inv (blkE X s3 H3 scope ce [it] q) [] σ' H' s' → H' it = none → ∀ b ∈ [it], FpOk (blkE X s3 H3 scope ce [it] q) [] H' b := fun {σ' H' s'} J n b hb => by
    obtain rfl := List.mem_singleton.mp hb
    exact ⟨n, (J.ok.exf _ hb).1, J.ok.exfs _ hb, .inl hb, fun x c e => (J.ok.exf _ hb).2 x c e, fun p hp => by rw [List.mem_singleton.mp (show p ∈ [q] from hp)]; exact Ne.symm hqit⟩
  have hc1 : ∀ {h : Heap} {j : Nat}, h.IsListIter it l j → ∀ b ∈ [it], ∃ o, h.get? b = some o ∧ ∀ v, o.data ≠ .cell v := fun st b hb => by
    obtain rfl := List.mem_singleton.mp hb
    obtain ⟨o, g, _, dt⟩ := st
    exact ⟨o, g, fun v e => by rw [dt] at e; cases e⟩
  suffices loop : codeAny (model X.prog X.w) X.A (.compLoop (.ListComp elt [⟨tg, iter, ifs, 0⟩] scope pos) 0 (.ref it) (.ref L) ce) (compPost (model X.prog X.w) X.A X.xe (some (assign (.Name y py) X.env)) (fun _ s' => SP X pins D .next s') (.ref L) s3.heap.objs.size) s4 from
    codeAny_compStart_list loop (wpAny_pyIter_listiter at4 loop)
  refine compLoop_any (fun n s' => ∃ j H', Inv (blkE X s3 H3 scope ce [it] q) [] (wipe σ (own.map (·.2))) H' s' ∧ s'.heap.IsListIter it l j ∧ H' it = none ∧ W j n H') ?_ m0 ⟨0, H3, I4, at4, fp3.1, w0⟩
  rintro n s5 ⟨j, H5, I5, at5, n5, w5⟩
  have wide : ∀ {h' : Heap}, (∀ b o, b ≠ it → s5.heap.get? b = some o → h'.get? b = some o) → Inv (blkE X s3 H3 scope ce [it] q) [] (wipe σ (own.map (·.2))) H5 { s5 with heap := h' } := fun {h'} up => by
    obtain ⟨g0, g1, _, g3, g4, g5⟩ := fpB I5 n5 it (List.mem_singleton.mpr rfl)
    exact I5.turned (t' := s5.toks) up g0 g1 g3 g4 g5
  rcases turn j n H5 w5 with ⟨⟨ys, hys, hend⟩, done⟩ | ⟨⟨ys, x, hys, hx⟩, Nx, hNx, step⟩
  · -- the end: the list is stored
    obtain ⟨vs, rvs, lst5, _⟩ := I5.list hys
    refine thnF (list_end_any (X := X) cg.by_ cg.zn cg.fld (stands I5) at5 lst5.isList (by have := rvs.length; simp; omega) hqit (Q := fun r s6 => r = none ∧ Inv (blkE X s3 H3 scope ce [it] q) [] (wipe σ (own.map (·.2))) H5 s6) (fun h' up => ⟨rfl, wide up⟩)) fun r s6 ⟨hr, I6⟩ => ?_
    subst hr
    have I7 : Inv X pins σ H5 s6 := I3.call' (ch := [it]) I6.os I6.base I6.hok I6.bare fun b hb => by
      rw [List.mem_singleton.mp hb]; exact ⟨fp3.2.2.2.1, fp3.2.1, fp3.2.2.2.2.1, fp3.2.2.2.2.2⟩
    have free : H5 s3.heap.objs.size = none := by have e : H5 ce.locals = none := I6.free; rwa [loc] at e
    obtain ⟨mm, ns, _⟩ := I6.loc
    have ns : s6.heap.Ns ce.locals mm := ns
    rw [loc] at ns
    obtain ⟨f0, f1, f2, f3, f4, f5⟩ : FpOk X pins H5 s3.heap.objs.size := I3.fpOk (Nat.le_refl _) free
    show wpAny _ _ (assign (.Name y py) X.env (.ref L)) _ _ _
    refine wpAny_assign_Name (store_ok2 (v := V.ref L) I7 hN hy (.inl hyl) rfl (fun s8 I8 ⟨a, same, ha⟩ => ?_) (.inr hyl))
    have away : s3.heap.objs.size ≠ a := ha.elim (fun e => e ▸ f1) fun e => fun e' => f4 y a e e'.symm
    exact ⟨mm, ns.sameBut same away, fun h9 same9 => ⟨_, H5, I8.turned (t' := s8.toks) (fun b o hb g => (same9.2 b hb).trans g) f0 f1 f3 f4 f5, done⟩⟩
  · -- a turn
    obtain ⟨vs, rvs, lst5, _⟩ := I5.list hys
    obtain ⟨u, hu, ru⟩ := rvs.get hx
    refine thnF (wpAny_pyNext_list_item (Q := fun r s6 => r = some u ∧ Inv (blkE X s3 H3 scope ce [it] q) [] (wipe σ (own.map (·.2))) H5 s6 ∧ s6.heap.IsListIter it l (j + 1)) at5 lst5.isList (x := u) (by simpa using hu) fun h' st same => ⟨rfl, wide fun b o hb g => (same.2 b hb).trans g, st⟩) fun r s6 ⟨hr, I6, at6⟩ => ?_
    subst hr
    obtain ⟨oi, gi, ci, di⟩ := id at6
    refine go_of gi ci di (by decide) ?_
    have I7 := I6.pinned (fpB I6 n5) (hc1 at6)
    refine thnF (rg.run _ s6 _ H5 x u _ I7 ru (step x H5 ⟨rfl, fun zs hzs => by rw [I5.list_inj hzs hys]; exact hx⟩)) fun _ s7 ⟨σ7, H7, I8, wp, k7⟩ => ?_
    refine thnF (rt.run _ s7 σ7 H7 _ I8 k7) fun b s8 ⟨H8, I9, k8⟩ => ?_
    have again : ∀ {s' : Shared} {H' : Hp}, Inv (blkE X s3 H3 scope ce [it] q) ([] ++ pinsAt [it] s6.heap) σ7 H' s' → Nx H' → ∃ m, m < n ∧ ∃ j' H', Inv (blkE X s3 H3 scope ce [it] q) [] (wipe σ (own.map (·.2))) H' s' ∧ s'.heap.IsListIter it l j' ∧ H' it = none ∧ W j' m H' := fun {s' H'} J nx => by
      obtain ⟨m', hm, w'⟩ := hNx H' nx
      have kept := J.pin (it, oi) (List.mem_append_right _ (List.mem_append_right _ (mem_pinsAt (List.mem_singleton.mpr rfl) gi)))
      refine ⟨m', hm, j + 1, H', (J.unpinned (pins := [])).weak (by rw [← wp, wipe_length]) (fun k v e => ?_), ⟨oi, kept.1, ci, di⟩, kept.2.1, w'⟩
      rw [← wp] at e
      exact (wipe_some e).1
    cases b with
    | false =>
      rw [if_neg Bool.false_ne_true] at k8
      exact again I9 k8
    | true =>
      rw [if_pos rfl] at k8
      refine thnF (re.run _ s8 σ7 H8 _ I9 k8) fun v9 s9 ⟨yv, H9, I10, r9, acc, hD9, hz9, nx⟩ => ?_
      exact app_ok (X := blkE X s3 H3 scope ce [it] q) I10 hD9 hz9 r9 fun s10 I11 => again I11 nx
/-- isinstance(e, c) -/
def rIsX (K : PySem.W.Frag) (a : Addr) (cls : Value) (d : Option Addr) : List V → Hp → VK → Prop := fun xs H Q => ∃ (c : V) (cv : Value) (b : Bool) (D dd : Addr) (fs : List (Str × V)), xs = [.ref a, c] ∧ (∀ u, RelV c u → u = cv) ∧ cls = .ref D ∧ d = some dd ∧ H dd = some (.xd fs) ∧ ExcC K D ∧ PySem.W.kitOne K (.ref D) cv = some b ∧ Q (.bl b) H
theorem call_isX (C : Caught X q cls d) : CallR X (.builtin "isinstance") (rIsX X.K q.1 cls d) := by
  intro pins s σ H xs us Q I rel ⟨c, cv, b, D, dd, fs, ex, hcv, ec, ed, ea, T, kit, k⟩
  subst ex ec ed
  cases rel with
  | @cons _ u0 _ us0 r0 rest =>
  cases rest with
  | @cons _ u1 _ us1 r1 rest =>
  cases rest
  obtain rfl : u0 = Value.ref q.1 := r0
  obtain rfl := hcv _ r1
  have there := (I.pin q (List.mem_append_left _ C.mem)).1
  obtain ⟨mA, hns, hr⟩ : ObjOk X.prog X.w H s.heap dd (.xd fs) := I.hok dd _ ea
  obtain ⟨od, ho, hl⟩ := lookIn_ns hns
  have inst : PySem.W.InstAt s.heap q.1 q.2 D (some od) := ⟨there, C.zn.1, by obtain ⟨vs, hd⟩ := C.fld; unfold PySem.W.notCls; rw [hd], by rw [C.zn.2.1]; exact ho⟩
  have some_ : (PySem.W.clsIn X.K D).isSome = true := by
    obtain ⟨cd, hc, _⟩ := PySem.W.any_some T.hd
    rw [hc]; rfl
  exact PySem.W.kia_one (PySem.W.kitx_exc some_ T.hg T.hk T.hs T.ha T.hn T.ht T.hm) I.kIn inst kit (fun z => nomatch z) fun tk => ⟨.bl b, H, I.kept (t' := tk) fun _ _ g => g, rfl, k⟩
end
/-! ### defs that are handed a caught exception -/
structure FnE (P : Program) (w : World) (K : PySem.W.Frag) (mg : Str → Option Value) (B : Heap) (n : Nat) (g : Addr) (fd : FuncData) (ps : List Str) (sp : Addr → Value → Option Addr → Sp) : Prop where
  cnt : ∀ a cls d vs H Q E, sp a cls d vs H Q E → vs.length = ps.length
  go : ∀ (A : Around) (ou : List Env) (t : Shared) (H : Hp) (ar : Args) (us : List Value) (vs : List V) (Q : VK) (E : XK) (q : Addr × Obj) (cls : Value) (d : Option Addr), A.guards = some [] → L2H.RoomH n A → ByQ A q → L2N.Zn cls d q.2 → (∃ vs, q.2.data = .fields vs) → L2H.PinOk ou H t q →
    Env0 P w K mg B A ou t H → BindsTo t fd ar (ps.zip us) → Vals vs us → sp q.1 cls d vs H Q E → codeAny (model P w) A (.call (.ref g) ar) (CR L2.CX0 ou P w H t Q E) t
/-- the context of such a def's body -/
abbrev cxE (P : Program) (w : World) (K : PySem.W.Frag) (mg : Str → Option Value) (B : Heap) (N : List Str) (qual : Str) (sc : Scope) (g : Addr) (cd : Value) (A : Around) (ou : List Env) (t : Shared) (H : Hp) (E : XK) (q : Addr × Obj) : Cx :=
  (L2H.cxH L2.CX0 P w K mg B N qual sc g cd A ou t H E q).nox
theorem okE {P : Program} {w : World} {K : PySem.W.Frag} {mg : Str → Option Value} {base : Heap} {x qual : Str} {st : Stmt} {f : Addr} {fd : FuncData} {N ps : List Str} {k : Nat} {sp : Addr → Value → Option Addr → Sp} (F : Fun K x qual st f fd) (S : FnScope N ps (defScope st)) (cnt : ∀ a cls d vs H Q E, sp a cls d vs H Q E → vs.length = ps.length)
    (body : ∀ (cdv : Value) (A : Around) (ou : List Env) (t : Shared) (H : Hp) (vs : List V) (Q : VK) (E : XK) (q : Addr × Obj) (cls : Value) (d : Option Addr), A.guards = some [] → L2H.RoomH k (A.deeper (envOfC qual (defScope st) t.heap.objs.size f cdv)) →
      Caught (cxE P w K mg base N qual (defScope st) f cdv A ou t H E q) q cls d → sp q.1 cls d vs H Q E →
      ∃ r, PSs (cxE P w K mg base N qual (defScope st) f cdv A ou t H E q) (defBody st) r ∧ r ⟨fun _ H' => Q .non H', Q, fun _ _ => False, fun _ _ => False⟩ (L2.start N vs) H) : FnE P w K mg base (k + 1) f fd ps sp where
  cnt := cnt
  go A ou t H ar us vs Q E q cls d hG room hby hz hf hpin env bi rv z := by
    obtain ⟨oc, od, kV, doc, pm, an, cdv, ct, osl, rfl, lk, hcd⟩ := F.ex
    have kin := env.mod.kin.keeps fun b o e => (env.bs b o e).1
    have lim := env.mod.nolimit.keeps fun b o e => (env.bs b o e).1
    have kinds : ∀ y ∈ ps.zip us, (defScope st).names.lookup y.1 = some .local ∨ ((defScope st).names.lookup y.1 = some .cell ∧ ((cellsFrom (t.heap.objs.size + 1) (defScope st).names []).lookup y.1).isSome = true) := fun y hy =>
      (S.par y.1 (List.of_mem_zip (a := y.1) (b := y.2) hy).1).imp id fun e => ⟨e, PySem.W.cellsFrom_some _ _ _ (.inl e)⟩
    refine codeAny_call_function room.depth (kin _ _ lk) rfl S.co S.gen rfl (PySem.W.codeRec_of kin hcd) (bi _ _ _ _ (wpAny_newFunctionEnv_cells S.kind kinds fun env' he t1 inC => ?_))
    subst he
    have cg : Caught (cxE P w K mg base N qual (defScope st) f cdv A ou t H E q) q cls d := ⟨List.mem_singleton.mpr rfl, hby, hz, hf⟩
    obtain ⟨r, hr, hq⟩ := body cdv A ou t H vs Q E q cls d hG (room.deeper _) cg z
    refine ⟨lim.keeps inC.toInCall.keep, codeAny_func (wpAny_mono (hr.nox.run [] t1 (L2.start N vs) H _ (L2H.inv_startH S hpin env (cnt _ _ _ _ _ _ _ z) rv inC) hq) (fun fl t' res => ?_) (fun e t' res => ?_))⟩
    · match fl, res with
      | .ret u, ⟨v, _, H', J, ru, fin⟩ => exact ⟨v, H', J.os, J.bare, J.base, J.hok, ru, fin⟩
      | .next, ⟨_, H', J, fin⟩ => exact ⟨V.non, H', J.os, J.bare, J.base, J.hok, rfl, fin⟩
      | .brk, ⟨_, _, _, no⟩ => exact no.elim
      | .cont, ⟨_, _, _, no⟩ => exact no.elim
    · exact res
section
variable {X : Cx} {n : Nat} {g : Addr} {fd : FuncData} {ps : List Str} {sp : Addr → Value → Option Addr → Sp} {x : Str} {p pos : Pos} {e : Expr} {es : List Expr} {t : TA} {q : Addr × Obj} {cls : Value} {d : Option Addr}
def tCallE (sp : Sp) (t : TA) : TE := fun σ H Q => t σ H fun vs H1 => sp vs H1 Q fun _ _ _ => False
theorem pe_callE (F : FnE X.prog X.w X.K X.mg X.base n g fd ps sp) (C : Caught X q cls d) (hG : X.A.guards = some []) (room : L2H.RoomH n X.A) (gx : Gl X x) (at' : X.mg x = some (.ref g)) (kp : PySem.W.keepIn X.K (.ref g) = true)
    (bi : Binds X.K fd ps []) (ha : PA X (e :: es) t) (hdb : (x == ("__debug__" : Str)) = false := by decide)
    (he : starEach (e :: es) X.env = (false, eval e X.env) :: starEach es X.env := by rfl) (hpl : (backTo pos (starEach es X.env)).any (·.1) = false := by rfl) : PE X (.Call (.Name x p) (e :: es) [] pos) (tCallE (sp q.1 cls d) t) :=
  ⟨fun pins s σ H Q I z => wpAny_Call_Name_kw (ld_glob I gx at'
    (PySem.W.callWith_K (h₀ := X.base) I.ok.mod.kin kp (thn (ha.run pos pins s σ H _ I z) fun us s1 ⟨vs, H1, J, rv, k⟩ => ⟨J.kIn, by
      have len : us.length = ps.length := rv.length ▸ F.cnt _ _ _ _ _ _ _ k
      have bd := bi s1 us J.kIn (by rw [List.append_nil]; exact len)
      rw [List.append_nil] at bd
      have pinned := J.pin q (List.mem_append_left _ C.mem)
      have okp : L2H.PinOk X.stack H1 s1 q := ⟨pinned.1, pinned.2.1, fun hm => by
        rcases List.mem_cons.mp (J.stkSub q.1 hm) with e | e
        · exact pinned.2.2.1 e
        · exact pinned.2.2.2.1 e, pinned.2.2.2.2⟩
      exact wpAny_call (codeAny_mono (F.go X.A X.stack s1 H1 ⟨us, []⟩ _ _ Q _ q cls d hG room C.by_ C.zn C.fld okp J.env0 bd rv k) fun r s' res => by
        match r, res with
        | .ok (.ret v), res => exact J.after res
        | .error _, res => exact res.elim
        | .ok .next, res => exact res.elim
        | .ok .brk, res => exact res.elim
        | .ok .cont, res => exact res.elim)⟩) he hpl) hdb)⟩
/-- .. in an except suite -/
theorem caughtS {X : Cx} {a : Addr} {oe : Obj} {pn : List (Addr × Obj)} (hz : L2N.Zn cls d oe) (hf : ∃ vs, oe.data = .fields vs) : Caught (X.suite a ((a, oe) :: pn)) (a, oe) cls d := ⟨List.mem_cons_self, .inr rfl, hz, hf⟩
theorem pe_callES {X : Cx} {a : Addr} {oe : Obj} {pn : List (Addr × Obj)} (F : FnE X.prog X.w X.K X.mg X.base n g fd ps sp) (hz : L2N.Zn cls d oe) (hf : ∃ vs, oe.data = .fields vs) (hG : X.A.guards = some []) (room : Room n X.A) (gx : Gl X x) (at' : X.mg x = some (.ref g)) (kp : PySem.W.keepIn X.K (.ref g) = true)
    (bi : Binds X.K fd ps []) (ha : PA (X.suite a ((a, oe) :: pn)) (e :: es) t) (hdb : (x == ("__debug__" : Str)) = false := by decide)
    (he : starEach (e :: es) X.env = (false, eval e X.env) :: starEach es X.env := by rfl) (hpl : (backTo pos (starEach es X.env)).any (·.1) = false := by rfl) : PE (X.suite a ((a, oe) :: pn)) (.Call (.Name x p) (e :: es) [] pos) (tCallE (sp a cls d) t) :=
  pe_callE (X := X.suite a ((a, oe) :: pn)) (q := (a, oe)) F (caughtS hz hf) hG (L2H.roomH_mark room _) gx at' kp bi ha hdb he hpl
theorem pe_xfC (C : Caught X q cls d) {e : Expr} {te : TE} {pos : Pos} {f : Str} (he : PE X e te) (hb : attributeBase e f X.env (eval e X.env) = eval e X.env := by rfl) : PE X (.Attribute e f pos) (tXfA X.K q.1 cls d f te) :=
  pe_xfA C.mem C.zn C.fld he hb
end
theorem unitsE {k : Nat} {A : Around} (r : L2H.RoomH k A) : A.units + 64 < cLine := by have := r.un; omega
section
variable {K : PySem.W.Frag} {a : Addr} {cls : Value} {d : Option Addr} {H : Hp} {Q : VK} {σ : L2.St} {sp : Sp} {t : TA}
theorem r_callE (h : t σ H fun vs H1 => sp vs H1 Q fun _ _ _ => False) : tCallE sp t σ H Q := h
/-- isinstance(e, C), C a class of the text -/
theorem r_isR {C D dd : Addr} {fs : List (Str × V)} {b : Bool} (hd : H dd = some (.xd fs)) (T : ExcC K D) (k : PySem.W.kitOne K (.ref D) (.ref C) = some b) (q : Q (.bl b) H) : rIsX K a (.ref D) (some dd) [.ref a, .ref C] H Q :=
  ⟨_, .ref C, b, D, dd, fs, rfl, fun u r => r, rfl, rfl, hd, T, k, q⟩
/-- isinstance(e, ValueError) -/
theorem r_isT {D dd : Addr} {fs : List (Str × V)} {b : Bool} {c : String} (hd : H dd = some (.xd fs)) (T : ExcC K D) (k : PySem.W.kitOne K (.ref D) (.type c) = some b) (q : Q (.bl b) H) : rIsX K a (.ref D) (some dd) [.ref a, .ty c] H Q :=
  ⟨_, .type c, b, D, dd, fs, rfl, fun u r => r, rfl, rfl, hd, T, k, q⟩
end
end Xk
local macro_rules | `(tactic| fail "ww1") => `(tactic| with_reducible refine Xk.r_callE ?_)

set_option Elab.async false
set_option linter.all false
set_option maxRecDepth 100000
set_option maxHeartbeats 20000000
namespace Xk
open PySem PySem.Spec PyProof.Rows L2
/-! ### objects of the text's own classes -/
section
variable {X : Cx} {K : PySem.W.Frag} {f : Str} {o value : Expr} {ta tv : TE} {pos pos' : Pos}
theorem pe_fldK (K : PySem.W.Frag) (he : PE X o ta) (hb : attributeBase o f X.env (eval o X.env) = eval o X.env := by rfl) (hK : X.K = K := by rfl) : PE X (.Attribute o f pos) (tFld K ta f) := hK ▸ pe_fld he hb
theorem ps_fldK (K : PySem.W.Frag) (ha : PE X o ta) (hv : PE X value tv) (hs : swapsWith value (some (.Attribute o f pos')) pos.line X.env = pure false := by rfl) (hK : X.K = K := by rfl) : PS X (.Assign [.Attribute o f pos'] value pos) (sFld K ta tv f) := hK ▸ ps_fld ha hv hs
theorem ps_fldaugK (K : PySem.W.Frag) {op : Operator} {rd : V → V → Hp → VK → Prop} (ha : PE X o ta) (hv : PE X value tv) (hop : InOp X op rd) (hK : X.K = K := by rfl) : PS X (.AugAssign (.Attribute o f pos') op value pos) (sFldAug K ta tv rd f) := hK ▸ ps_fldaug ha hv hop
end
section
variable {K : PySem.W.Frag} {σ : L2.St} {H : Hp} {Q : VK} {D : Ends} {a C dx : Addr} {fs : List (Str × V)} {f : Str} {v y : V} {ta tv : TE} {t : TA} {sp : Sp} {dvs : List V} {E : XK}
/-- a field is read -/
theorem r_fld (h : ta σ H fun x H1 => ∃ a C dx fs v, x = .ref a ∧ H1 a = some (.ins C dx fs) ∧ Cls K C ∧ NoAttr K C f ∧ fs.lookup f = some v ∧ Q v H1) : tFld K ta f σ H Q := h
theorem r_sfld (h : tv σ H fun y H1 => ta σ H1 fun x H2 => ∃ a C dx fs, x = .ref a ∧ H2 a = some (.ins C dx fs) ∧ Cls K C ∧ NoAttr K C f ∧ fs.length < 1000 ∧ D.nx σ (upd H2 a (.ins C dx (putF f y fs)))) : sFld K ta tv f D σ H := h
theorem r_sfldaug {rd : V → V → Hp → VK → Prop} (h : ta σ H fun x H1 => ∃ a C dx fs v, x = .ref a ∧ H1 a = some (.ins C dx fs) ∧ Cls K C ∧ NoAttr K C f ∧ fs.lookup f = some v ∧ tv σ H1 fun y H2 => rd v y H2 fun z H3 => ∃ dx' fs', H3 a = some (.ins C dx' fs') ∧ fs'.length < 1000 ∧ D.nx σ (upd H3 a (.ins C dx' (putF f z fs')))) : sFldAug K ta tv rd f D σ H := h
theorem r_prop (h : ta σ H fun x H1 => ∃ a dx fs, x = .ref a ∧ H1 a = some (.ins C dx fs) ∧ sp (.ref a :: dvs) H1 Q E) : tProp C sp dvs E ta σ H Q := h
theorem r_meth {m : Str} (h : ta σ H fun x H1 => ∃ a dx fs, x = .ref a ∧ H1 a = some (.ins C dx fs) ∧ fs.lookup m = none ∧ t σ H1 fun vs H2 => sp (x :: (vs ++ dvs)) H2 Q E) : tMeth C m sp dvs E ta t σ H Q := h
theorem r_make (h : t σ H fun vs H1 => ∀ x dx, H1 x = none → H1 dx = none → dx ≠ x → sp (.ref x :: (vs ++ dvs)) (upd (upd H1 dx (.own x)) x (.ins C dx [])) (fun v H2 => v = .non ∧ Q (.ref x) H2) E) : tMake C sp dvs E t σ H Q := h
end
end Xk
local macro_rules | `(tactic| fail "ww1") => `(tactic| with_reducible first | refine Xk.r_fld ?_ | refine Xk.r_sfld ?_ | refine Xk.r_sfldaug ?_ | refine Xk.r_prop ?_ | refine Xk.r_meth ?_ | refine Xk.r_make ?_)

set_option Elab.async false
set_option linter.all false
set_option maxRecDepth 100000
set_option maxHeartbeats 20000000
namespace Xk
open PySem PySem.Spec PyProof.Rows L2
/-! ### classes whose methods raise -/
theorem guards_make {A : Around} (h : A.guards = some []) (C : Addr) (us : List Value) (kw : List (Str × Value)) : (A.under (.builtin "type.__call__" ⟨.ref C :: us, kw⟩)).guards = some [] := by
  obtain ⟨hd, d, fr, gs, u⟩ := A
  dsimp only at h
  subst h
  rfl
section
variable {X : Cx} {W : WX} {k : Nat} {f C : Addr} {fd : FuncData} {ps ks : List Str} {sp : Sp} {x m : Str} {p pos apos : Pos} {o : Expr} {kws : List Keyword} {ta : TE} {t tk : TA} {ff : List Value → List Value → List Value} {fV : List V → List V → List V}
theorem run_makeX {pins : List (Addr × Obj)} {σ : L2.St} {H : Hp} {s : Shared} {Q : VK} {us ws : List Value} {vs zs : List V} (M : Mk X.K C f) (F : FnG X.prog X.w X.K X.mg X.base (L2N.CX X.prog X.w) k f fd ps sp) (hG : X.A.guards = some []) (hr : Room (k + 1) X.A) (hb : KBinds X.K fd ps ks ff fV)
    (tw : L2N.Takes X W) (I : Inv X pins σ H s) (r : Vals vs us) (rz : Vals zs ws)
    (h : ∀ x dx, H x = none → H dx = none → dx ≠ x → sp (fV (.ref x :: vs) zs) (upd (upd H dx (.own x)) x (.ins C dx [])) (fun v H2 => v = .non ∧ Q (.ref x) H2) (WE W σ)) :
    wpAny (model X.prog X.w) X.A (PySem.call (.ref C) us (ks.zip ws)) (EP X pins σ Q) X.xe s := by
  have hq := h (s.heap.objs.size + 1) s.heap.objs.size (I.hok.fresh (Nat.le_succ _)) (I.hok.fresh (Nat.le_refl _)) (Nat.ne_of_lt (Nat.lt_succ_self _))
  have I2 := Inv.made (C := C) I
  have r1 : Vals (V.ref (s.heap.objs.size + 1) :: vs) (Value.ref (s.heap.objs.size + 1) :: us) := .cons rfl r
  have r2 := hb.rel r1 rz
  have hl : (ff (Value.ref (s.heap.objs.size + 1) :: us) ws).length = ps.length := r2.length ▸ F.cnt _ _ _ _ hq
  refine wpAny_call (make_map (f := f) I.kIn M.makes M.init (beq_iff_eq.mp M.fn) (codeAny_mono (F.go _ X.stack _ _ ⟨Value.ref (s.heap.objs.size + 1) :: us, ks.zip ws⟩ (ff (Value.ref (s.heap.objs.size + 1) :: us) ws) _ _ (WE W σ) (guards_make hG C us (ks.zip ws)) (hr.make C us (ks.zip ws))
    (I2.env0.make C us (ks.zip ws)) (hb.to _ (Value.ref (s.heap.objs.size + 1) :: us) ws I2.kIn hl) r2 hq) fun r s' hq' => ?_))
  cases r with
  | error e => exact L2N.passAt tw σ pins _ _ e s' I2 hq'
  | ok fl =>
    cases fl with
    | ret u =>
      obtain ⟨v, H', I3, rv, ev, q3⟩ := I2.after hq'
      subst ev
      exact ⟨rv, ⟨V.ref (s.heap.objs.size + 1), H', I3, rfl, q3⟩⟩
    | next => exact False.elim hq'
    | brk => exact False.elim hq'
    | cont => exact False.elim hq'
/-- C(k = v, ..), whose __init__ may raise -/
def tMakeX (C : Addr) (sp : Sp) (fV : List V → List V → List V) (W : WX) (tk : TA) : TE := fun σ H Q => tk σ H fun zs H1 => ∀ x dx, H1 x = none → H1 dx = none → dx ≠ x → sp (fV [.ref x] zs) (upd (upd H1 dx (.own x)) x (.ins C dx [])) (fun v H2 => v = .non ∧ Q (.ref x) H2) fun cls d H' => W cls d σ H'
theorem pe_makeXK0 (M : Mk X.K C f) (F : FnG X.prog X.w X.K X.mg X.base (L2N.CX X.prog X.w) k f fd ps sp) (hG : X.A.guards = some []) (hr : Room (k + 1) X.A) (hg : Gl X x) (hm : X.mg x = some (.ref C)) (hb : KBinds X.K fd ps ks ff fV)
    (tw : L2N.Takes X W) (hkw : PK X kws tk) (hdb : (x == ("__debug__" : Str)) = false := by decide)
    (all' : (backToKw pos (keywordEach kws X.env)).all (·.1.isSome) = true := by rfl) (nms : (backToKw pos (keywordEach kws X.env)).filterMap (·.1) = ks := by rfl)
    (hpl : ((backTo pos (starEach [] X.env)).any (·.1) || (backToKw pos (keywordEach kws X.env)).any (·.1.isNone)) = false := by rfl) :
    PE X (.Call (.Name x p) [] kws pos) (tMakeX C sp fV W tk) := by
  subst nms
  exact ⟨fun pins s σ H Q I z => wpAny_Call_Name_kw (ld_glob I hg hm
    (PySem.W.callWith_KW0 (h₀ := X.base) I.ok.mod.kin M.kp all' (thn (hkw.run pos pins s σ H _ I z) fun ws s2 ⟨zs, H2, I2, rz, q2⟩ => ⟨I2.kIn, run_makeX M F hG hr hb tw I2 .nil rz q2⟩) hpl) hdb)⟩
/-- o.m(k = v, ..), which may raise -/
def tMethX (C : Addr) (m : Str) (sp : Sp) (fV : List V → List V → List V) (W : WX) (ta : TE) (tk : TA) : TE := fun σ H Q => ta σ H fun x H1 => ∃ a dx fs, x = .ref a ∧ H1 a = some (.ins C dx fs) ∧ fs.lookup m = none ∧ tk σ H1 fun zs H2 => sp (fV [x] zs) H2 Q fun cls d H' => W cls d σ H'
theorem pe_methXK0 {pl : Sem Bool} (he : PE X o ta) (c : Cls X.K C) (hm : Meth X.K C m f) (F : FnG X.prog X.w X.K X.mg X.base (L2N.CX X.prog X.w) k f fd ps sp) (hG : X.A.guards = some []) (hr : Room k X.A) (hb : KBinds X.K fd ps ks ff fV)
    (tw : L2N.Takes X W) (hkw : PK X kws tk)
    (all' : (backToKw pos (keywordEach kws X.env)).all (·.1.isSome) = true := by rfl) (nms : (backToKw pos (keywordEach kws X.env)).filterMap (·.1) = ks := by rfl)
    (hpl : ((backTo pos (starEach [] X.env)).any (·.1) || (backToKw pos (keywordEach kws X.env)).any (·.1.isNone)) = false := by rfl)
    (ht : eval (.Call (.Attribute o m apos) [] kws pos) X.env = (do
      let ov ← eval o X.env
      standAt apos.atName
      let (f, first) ← holding [ov] (getMethod ov m pl)
      callWith pos f first (backTo pos (starEach [] X.env)) (backToKw pos (keywordEach kws X.env))) := by rfl) :
    PE X (.Call (.Attribute o m apos) [] kws pos) (tMethX C m sp fV W ta tk) := by
  subst nms
  refine ⟨fun pins s σ H Q I h => ?_⟩
  refine PySem.W.methodCall_KW (pl := pl) (thn (he.run pins s σ H _ I h) fun u s1 ⟨x, H1, I1, rx, a, dx, fs, ex, ea, l, q⟩ => ?_) ht
  subst ex
  obtain rfl : u = Value.ref a := rx
  refine getmeth_ok I1 ea c hm l ?_
  refine PySem.W.callWith_KW0 (first := [.ref a]) (h₀ := X.base) I1.ok.mod.kin hm.kp all' (thn (hkw.run pos pins s1 σ H1 _ I1 q) fun ws s2 ⟨zs, H2, I2, rz, q2⟩ => ⟨I2.kIn, ?_⟩) hpl
  exact goXK (us := [.ref a]) (vs := [.ref a]) F hG hr hb tw I2 (.cons rfl .nil) rz q2
end
section
variable {K : PySem.W.Frag} {σ : L2.St} {H : Hp} {Q : VK} {C : Addr} {sp : Sp} {fV : List V → List V → List V} {W : WX} {ta : TE} {tk : TA} {m : Str}
theorem r_makeX (h : tk σ H fun zs H1 => ∀ x dx, H1 x = none → H1 dx = none → dx ≠ x → sp (fV [.ref x] zs) (upd (upd H1 dx (.own x)) x (.ins C dx [])) (fun v H2 => v = .non ∧ Q (.ref x) H2) fun cls d H' => W cls d σ H') : tMakeX C sp fV W tk σ H Q := h
theorem r_methX (h : ta σ H fun x H1 => ∃ a dx fs, x = .ref a ∧ H1 a = some (.ins C dx fs) ∧ fs.lookup m = none ∧ tk σ H1 fun zs H2 => sp (fV [x] zs) H2 Q fun cls d H' => W cls d σ H') : tMethX C m sp fV W ta tk σ H Q := h
end
/-! ### isinstance of a caught exception, by a tuple of classes -/
def rIsXT (K : PySem.W.Frag) (a : Addr) (cls : Value) (d : Option Addr) : List V → Hp → VK → Prop := fun xs H Q => ∃ (tp : Addr) (cs : List V) (us : List Value) (b : Bool) (D dd : Addr) (fs : List (Str × V)), xs = [.ref a, .ref tp] ∧ H tp = some (.tup cs) ∧ Paired ClsV cs us ∧ cls = .ref D ∧ d = some dd ∧ H dd = some (.xd fs) ∧ ExcC K D ∧ PySem.W.kitAny K (.ref D) us = some b ∧ Q (.bl b) H
theorem call_isXT {X : Cx} {q : Addr × Obj} {cls : Value} {d : Option Addr} (C : Caught X q cls d) : CallR X (.builtin "isinstance") (rIsXT X.K q.1 cls d) := by
  intro pins s σ H xs us Q I rel ⟨tp, cs, ws, b, D, dd, fs, ex, hT, kk, ec, ed, ea, T, kit, k⟩
  subst ex ec ed
  cases rel with
  | @cons _ u0 _ us0 r0 rest =>
  cases rest with
  | @cons _ u1 _ us1 r1 rest =>
  cases rest
  obtain rfl : u0 = Value.ref q.1 := r0
  obtain rfl : u1 = Value.ref tp := r1
  obtain ⟨_, its, rv, o, h1, h2, n, h3⟩ := (show ObjOk X.prog X.w H s.heap tp (.tup cs) from I.hok tp _ hT)
  have e3 := ClsV.all kk rv
  subst e3
  obtain ⟨oc, od', dt, sl⟩ := o
  simp only at h2 h3
  subst h2 h3
  have there := (I.pin q (List.mem_append_left _ C.mem)).1
  obtain ⟨mA, hns, hr⟩ : ObjOk X.prog X.w H s.heap dd (.xd fs) := I.hok dd _ ea
  obtain ⟨od, ho, hl⟩ := lookIn_ns hns
  have inst : PySem.W.InstAt s.heap q.1 q.2 D (some od) := ⟨there, C.zn.1, by obtain ⟨vs, hd⟩ := C.fld; unfold PySem.W.notCls; rw [hd], by rw [C.zn.2.1]; exact ho⟩
  have some_ : (PySem.W.clsIn X.K D).isSome = true := by
    obtain ⟨cd, hc, _⟩ := PySem.W.any_some T.hd
    rw [hc]; rfl
  exact PySem.W.kia_tup (PySem.W.kitx_exc some_ T.hg T.hk T.hs T.ha T.hn T.ht T.hm) I.kIn inst h1 kit (fun z => nomatch z) fun tk => ⟨.bl b, H, I.kept (t' := tk) fun _ _ g => g, rfl, k⟩
theorem r_isXT {K : PySem.W.Frag} {a tp D dd : Addr} {H : Hp} {Q : VK} {cs : List V} {us : List Value} {fs : List (Str × V)} {b : Bool} (hd : H dd = some (.xd fs)) (T : ExcC K D) (hT : H tp = some (.tup cs)) (kk : Paired ClsV cs us) (k : PySem.W.kitAny K (.ref D) us = some b) (q : Q (.bl b) H) : rIsXT K a (.ref D) (some dd) [.ref a, .ref tp] H Q :=
  ⟨tp, cs, us, b, D, dd, fs, rfl, hT, kk, rfl, rfl, hd, T, k, q⟩
section
variable {X : Cx}
/-- l.count(x), flat values -/
def rCntF (K : PySem.W.Frag) : V → List V → Hp → VK → Prop := fun x xs H Q => ∃ (p : Addr) (ys : List V) (y : V), x = .ref p ∧ xs = [y] ∧ SqL K H p ys ∧ flatV y = true ∧ ys.all flatV = true ∧ Q (.int (ys.countP (fun z => eqV z y) : Nat)) H
theorem cnt_eqU {x : V} : ∀ {xs : List V} {us : List Value}, Vals xs us → xs.all flatV = true → us.countP (eqU x) = xs.countP fun y => eqV y x
  | _, _, .nil, _ => rfl
  | y :: xs, u :: us, .cons r t, f => by
    rw [List.all_cons, Bool.and_eq_true] at f
    rw [List.countP_cons, List.countP_cons, cnt_eqU t f.2, eqU_of r f.1]
theorem mt_lcountF : MtR X "list.count" (rCntF X.K) := by
  intro pins s σ H x xs v us Q I rx rxs h
  obtain ⟨p, ys, y, rfl, rfl, hs, fy, fys, q⟩ := h
  cases rx
  obtain ⟨u, rfl, ru⟩ := rxs.one
  obtain ⟨its, rv, ⟨⟨cls, dd, data, sl⟩, n, ho, hc, hdn, hd⟩, hlen⟩ := I.list hs
  simp only at hc hd
  subst hc hd
  refine call_meets PySem.F.slot_list_count ⟨_, ho, rfl⟩ PySem.F.entry_list_count (PySem.F.args_list_count_2 _ _)
    (SeqAt.list_countAt p its.toArray n dd sl u (eqU y)) ⟨ho, fun z hz => mem_eqAt ru fy rv fys z (by simpa using hz), ?_⟩
  refine ⟨.int (ys.countP (fun z => eqV z y) : Nat), H, I.tok _, ⟨s.toks, ?_⟩, q⟩
  show Value.int ((its.toArray.toList.countP (eqU y) : Nat) : Int) s.toks = _
  rw [show its.toArray.toList = its from rfl, cnt_eqU rv fys]
theorem lcountF (K : PySem.W.Frag) (hK : X.K = K := by rfl) : MtR X "list.count" (rCntF K) := hK ▸ mt_lcountF
end
end Xk
local macro_rules | `(tactic| fail "ww1") => `(tactic| with_reducible first | refine Xk.r_makeX ?_ | refine Xk.r_methX ?_)

set_option Elab.async false
set_option linter.all false
set_option maxRecDepth 100000
set_option maxHeartbeats 4000000
namespace Xk
open PySem PySem.Spec PyProof.Rows L2
/-! ### dicts with tuples as keys -/
/-- {k: v}, k a tuple -/
def tDispT (trs : List (TE × TE)) : TE := fun σ H Q => ∀ p, H p = none → tPairs trs σ (upd H p (.dT [])) fun ps H2 => H2 p = some (.dT []) ∧ ∃ (b : Addr) (ks : List Key) (v : V), ps = [(.ref b, v)] ∧ H2 b = some (.tup (ks.map kV)) ∧ Q (.ref p) (upd H2 p (.dT [(ks, v)]))
section
variable {X : Cx}
theorem vv_one {b : Addr} {x : V} : ∀ {vs : List (Value × Value)}, Paired (fun (p : V × V) (q : Value × Value) => RelV p.1 q.1 ∧ RelV p.2 q.2) [(.ref b, x)] vs → ∃ u, vs = [(.ref b, u)] ∧ RelV x u
  | _, .cons (b := (w1, w2)) h .nil => by
    have e : w1 = Value.ref b := h.1
    exact ⟨w2, by rw [e], h.2⟩
theorem pe_dispT {k v : Expr} {trs : List (TE × TE)} {pos : Pos} (hu : X.A.units + 64 < cLine) (h : PPs X pos [some k] [v] trs) : PE X (.Dict [some k] [v] pos) (tDispT trs) := by
  refine ⟨fun pins s σ H Q I z => ?_⟩
  have I1 : Inv X pins σ (upd H s.heap.objs.size (.dT [])) { s with heap := s.heap.push { cls := .type "dict", data := .dict #[] } } :=
    I.laid (t' := s.toks) (fun b o y => Heap.get?_push_of_some _ y) (Nat.le_refl _) (dt_empty _ I.big)
  have np : H s.heap.objs.size = none := I.hok.fresh (Nat.le_refl _)
  have hrun := h.run pins _ σ _ _ I1 (z _ np)
  obtain ⟨pr, epr⟩ : ∃ pr, pairTrees [some k] [v] X.env pos = [pr] := ⟨_, rfl⟩
  have earm : eval (.Dict [some k] [v] pos) X.env = (do standAt pos; dictDisplay (List.map (fun p => (some p.1, p.2)) (pairTrees [some k] [v] X.env pos))) := arm_eval_Dict _ _ _ _
  rw [earm, epr]
  rw [epr] at hrun
  clear earm epr
  rw [dictDisplay_pairs [pr] (List.cons_ne_nil _ _) (by show 1 < 17; decide)]
  refine wpAny_bind (wpAny_standAt ?_)
  refine wpAny_bind (wpAny_subDictH (knd := tupleKind (mixKind X.prog X.w)) (by show X.A.units < cLine; omega) (by show 1 ≤ 15; decide) ?_)
  refine wpAny_mono hrun (fun vs s1 ⟨ps, H2, J, hv, hp, b, ks, x, eps, hb, q⟩ => ?_) fun _ _ y => y
  subst eps
  obtain ⟨u, rfl, hu'⟩ : ∃ u, vs = [(.ref b, u)] ∧ RelV x u := vv_one hv
  obtain ⟨_, low, xs, hk, hd⟩ := dt_of J.hok hp
  cases hk
  refine ⟨[(ks, b, u)], ⟨rfl, rfl, key_of J.hok hb, True.intro⟩, hd, fun h' tk hd' sb => ?_⟩
  refine wpAny_pure ⟨.ref _, _, d_write J (by rw [hp]; exact True.intro) sb ?_ ?_, rfl, q⟩
  · obtain ⟨o, _, _, ho, _⟩ := hd'; exact ⟨o, ho⟩
  · obtain ⟨o, es, ep, h1, h2, h3, h4, h5, h6⟩ := hd'
    exact ⟨by show 1 ≤ sizeLine; rw [sizeLine_eq]; decide, low, [(ks, b, u)], .cons ⟨rfl, (by rw [upd_ne (ne_of hb hp (by intro z; cases z))]; exact hb), hu'⟩ .nil, o, es, ep, h1, h2, h3, h4, h6⟩
end
end Xk
namespace Xk
open PySem PySem.Spec PyProof.Rows L2
section
variable {σ : L2.St} {H : Hp} {Q : VK} {ty td te : TE} {trs : List (TE × TE)} {R : It → Hp → Prop}
theorem r_dnotin (h : ty σ H fun y H1 => td σ H1 fun x H2 => ∃ a o, x = .ref a ∧ DGet H2 a y o ∧ Q (.bl (!o.isSome)) H2) : tDNotIn ty td σ H Q := h
theorem r_din (h : ty σ H fun y H1 => td σ H1 fun x H2 => ∃ a o, x = .ref a ∧ DGet H2 a y o ∧ Q (.bl o.isSome) H2) : tDIn ty td σ H Q := h
theorem r_dgetT (h : td σ H fun x H1 => ty σ H1 fun y H2 => ∃ a v, x = .ref a ∧ DGet H2 a y (some v) ∧ Q v H2) : tDGet td ty σ H Q := h
theorem r_dispT (h : ∀ p, H p = none → tPairs trs σ (upd H p (.dT [])) fun ps H2 => H2 p = some (.dT []) ∧ ∃ (b : Addr) (ks : List Key) (v : V), ps = [(.ref b, v)] ∧ H2 b = some (.tup (ks.map kV)) ∧ Q (.ref p) (upd H2 p (.dT [(ks, v)]))) : tDispT trs σ H Q := h
theorem r_lockE {t : TE} (d : Addr) (kvs : List (List Key × V)) (hd : H d = some (.dT kvs)) (h : ∀ od, t σ (upd H d (.frz od (.dT kvs))) fun v H' => H' d = some (.frz od (.dT kvs)) ∧ Q v (upd H' d (.dT kvs))) : tLockE t σ H Q := ⟨d, _, hd, True.intro, h⟩
theorem r_dput {tv : TE} {D : Ends} (h : tv σ H fun v H1 => td σ H1 fun x H2 => ty σ H2 fun y H3 => ∃ a H4, x = .ref a ∧ DPut H3 a y v H4 ∧ D.nx σ H4) : sDPut td ty tv D σ H := h
theorem walk_keysT {d : Addr} {o : Obj} {kvs : List (List Key × V)} : Walk (Itkt d o kvs) kvs.length (fun H => H d = some (.frz o (.dT kvs))) (fun i H x H' => H' = H ∧ ∃ k v q, kvs[i]? = some (k, v) ∧ x = .ref q ∧ H q = some (.tup (k.map kV))) :=
  ⟨fun i H hi h => ⟨h, hi⟩, fun H h => ⟨h, Nat.le_refl _⟩, fun i H x H' _ _ y => y⟩
theorem r_iKeysT {Rr : It → Hp → Prop} (h : td σ H fun x H1 => ∃ d o kvs, x = .ref d ∧ H1 d = some (.frz o (.dT kvs)) ∧ Rr (Itkt d o kvs) H1) (hm : ∀ (P P' : V → Hp → Prop), (∀ x H, P x H → P' x H) → td σ H P → td σ H P') : iKeys td σ H Rr :=
  hm _ _ (fun x H1 ⟨d, o, kvs, e, g, r⟩ => ⟨d, o, e, .inr ⟨kvs, g, r⟩⟩) h
end
end Xk
local macro_rules | `(tactic| fail "ww1") => `(tactic| with_reducible first | refine Xk.r_dnotin ?_ | refine Xk.r_din ?_ | refine Xk.r_dispT ?_ | refine Xk.r_dput ?_)

set_option Elab.async false
set_option linter.all false
set_option maxRecDepth 100000
set_option maxHeartbeats 20000000
namespace Xk
open PySem PySem.Spec PyProof.Rows L2 GenW
/-! ### a generator def whose first statement raises, where nothing is handled -/
/-- the body's context: as a def's that raises; pn, the generator's own object, stands -/
abbrev gcxN (P : Program) (w : World) (K : PySem.W.Frag) (mg : Str → Option Value) (B : Heap) (N : List Str) (qual : Str) (sc : Scope) (g : Addr) (cd : Value) (A : Around) (ou : List Env) (t : Shared) (H : Hp) (E : XK) (pn : List (Addr × Obj)) : Cx :=
  { cxOf (L2N.CX P w) P w K mg B N qual sc g cd A ou t H E with
    pn := pn
    xe := fun x t1 => wpAny (model P w) (A.deeper (envOfC qual sc t.heap.objs.size g cd)) (leaving (envOfC qual sc t.heap.objs.size g cd) x) (fun _ t2 => L2N.CX P w ou H t E x t2 ∧ ∀ q ∈ pn, t2.heap.get? q.1 = some q.2) (fun _ _ => False) t1 }
/-- it leaves the body; what is pinned stands behind it -/
theorem leave_pn {X : Cx} {W : WX} {E : XK} {t : Shared} (h1 : X.stack = X.env :: X.outer) (h2 : X.env.frame = some X.env.locals) (h3 : X.ex = []) {F : Value → Shared → Prop} (hW : ∀ c d σ H, W c d σ H → E c d H) {u : Value} (x : L2N.XE X W u t) :
    wpAny (model X.prog X.w) X.A (leaving X.env u) (fun _ t2 => L2N.CX X.prog X.w X.outer X.H_0 X.s_0 E u t2 ∧ ∀ q ∈ X.pn, t2.heap.get? q.1 = some q.2) F t := by
  obtain ⟨a, B, sI, pins, σ, H, c, d, rfl, I, nb, up, sky, na, os, ag, w⟩ := x
  have no : ∀ b, b ∉ X.ex := fun b hb => by rw [h3] at hb; exact nomatch hb
  have out : ∀ b o, X.s_0.heap.get? b = some o → b ∉ X.fs → b ∉ frs X.stack := fun b o e hb hm => (List.mem_cons.mp (I.stkSub b hm)).elim (fun z => by
    exact Nat.lt_irrefl _ (Nat.lt_of_lt_of_le (z ▸ Heap.lt_size e) I.ok.above)) hb
  have pinB : ∀ q ∈ X.pn, B.get? q.1 = some q.2 := fun q hq => by
    have p := I.pin q (List.mem_append_left _ hq)
    exact nb q.1 q.2 p.1 fun hm => (List.mem_cons.mp (I.stkSub q.1 hm)).elim p.2.2.1 p.2.2.2.1
  have gB := I.inGround nb
  have fr : X.A.frames = some (X.env :: X.outer) := by rw [I.ok.frames, h1]
  have fin : ∀ h, HandSPX.FlyingZ B X.outer a (L2N.Zn c d) h → t.heap.UpToSlots h → (L2N.CX X.prog X.w X.outer X.H_0 X.s_0 E (.ref a) { t with heap := h } ∧ ∀ q ∈ X.pn, ({ t with heap := h } : Shared).heap.get? q.1 = some q.2) := fun h fl hu => by
    refine ⟨⟨a, B, H, c, d, rfl, fl, gB, ⟨fun b o e n hb => nb b o (I.base.keep b o e n hb (no b)) (out b o e hb), fun b o e hb => ?_, fun b o e n => I.base.free b o e n (no b), fun b o e hb => ?_, I.base.tups, I.base.frzs, I.base.tbls⟩, na, os.trans I.os, ag, hW _ _ _ _ w⟩, fun q hq => fl.1 q.1 q.2 (pinB q hq)⟩
    · obtain ⟨_, o0, e0, nf⟩ := I.ok.funs.mem hb
      cases e.symm.trans e0
      obtain ⟨z1, y1⟩ := I.base.slot b o e (I.ok.frf b hb) hb (no b)
      obtain ⟨z2, y2⟩ := up b _ y1 nf
      exact hu b _ y2 nf |>.imp fun _ y => y
    · exact (I.base.there b o e (no b)).imp fun o2 e2 => nb b o2 e2 (out b o e hb)
  rw [h1] at sky
  rcases sky with ⟨y1, y2, y3, oe, vs, y4, y5, y6, y7⟩ | fl | hd
  · exact PXN.leaving_firstZ L2N.Zn.steady fr y3 h2 y4 y1 y2 y6 y7 y5 fin
  · exact PXN.leaves_onZ L2N.Zn.steady fr h2 fl fin
  · exact HandSPX.leaves_heldZ h2 hd fin
section
variable {P : Program} {w : World} {K : PySem.W.Frag} {mg : Str → Option Value} {B : Heap} {N : List Str} {qual : Str} {sc : Scope} {g : Addr} {cd : Value} {A : Around} {ou : List Env} {t : Shared} {H : Hp} {E : XK} {pn : List (Addr × Obj)}
theorem takes_gcxN : L2N.Takes (gcxN P w K mg B N qual sc g cd A ou t H E pn) (fun c d _ H' => E c d H') := fun u t1 x =>
  leave_pn (W := fun c d _ H' => E c d H') (E := E) rfl rfl rfl (fun _ _ _ _ h => h) x
end
/-- how its run ends -/
def RX (P : Program) (w : World) (ou : List Env) (H : Hp) (t : Shared) (E : XK) (a : Addr) (n : Nat) : GenEnd := fun _ _ r t1 => ∃ e, r = .error e ∧ L2N.CX P w ou H t E e t1 ∧ t1.heap.IsGen a n
def YNo : Protocol := fun _ _ _ _ _ => False
/-- what the call gives: a generator that raises as soon as it is woken -/
structure MadeX (P : Program) (w : World) (k : Nat) (ou : List Env) (H : Hp) (t : Shared) (E : XK) (a : Addr) (n : Nat) (c : Code) (t1 : Shared) : Prop where
  low : t.heap.objs.size ≤ a
  high : a < t1.heap.objs.size
  gen : t1.heap.IsGen a n
  fresh : t1.gens[n]? = some (.fresh c)
  os : t1.os = t.os
  bare : AllBare t1.gens
  lim : t1.heap.NoLimit
  kept : ∀ b o, t.heap.get? b = some o → t1.heap.get? b = some o
  wake : ∀ (A : Around) (t2 : Shared), A.guards = some [] → Room k A → A.frames = some ou → (∀ b o, t1.heap.get? b = some o → t2.heap.get? b = some o) → t2.os = t.os → AllBare t2.gens →
    Seg (model P w) A (RX P w ou H t E a n) YNo sizeLine t2 c ((model P w).den c) [] t2
def GMadeX (P : Program) (w : World) (k : Nat) (ou : List Env) (H : Hp) (t : Shared) (E : XK) (u : Value) (t1 : Shared) : Prop := ∃ (a : Addr) (n : Nat) (c : Code), u = .ref a ∧ MadeX P w k ou H t E a n c t1
/-- what such a def is handed, and what it raises -/
abbrev SpX := List V → Hp → XK → Prop
structure GFnX (P : Program) (w : World) (K : PySem.W.Frag) (mg : Str → Option Value) (B : Heap) (k : Nat) (f : Addr) (fd : FuncData) (ps : List Str) (sp : SpX) : Prop where
  cnt : ∀ vs H E, sp vs H E → vs.length = ps.length
  go : ∀ (A : Around) (ou : List Env) (t : Shared) (H : Hp) (ar : Args) (us : List Value) (vs : List V) (E : XK), Room k A → Env0 P w K mg B A ou t H → BindsTo t fd ar (ps.zip us) → Vals vs us → sp vs H E →
    codeAny (model P w) A (.call (.ref f) ar) (fun r t1 => match r with | .ok (.ret u) => GMadeX P w k ou H t E u t1 | _ => False) t
theorem okGX {P : Program} {w : World} {K : PySem.W.Frag} {mg : Str → Option Value} {B : Heap} {x qual : Str} {st st0 : Stmt} {rest : List Stmt} {f : Addr} {fd : FuncData} {N ps : List Str} {k : Nat} {sp : SpX} (F : Fun K x qual st f fd) (S : GScope N ps (defScope st)) (cnt : ∀ vs H E, sp vs H E → vs.length = ps.length) (hb : defBody st = st0 :: rest)
    (body : ∀ (cdv : Value) (A : Around) (ou : List Env) (t : Shared) (H : Hp) (vs : List V) (E : XK) (pn : List (Addr × Obj)), A.guards = some [] → Room k (A.deeper (envOfC qual (defScope st) t.heap.objs.size f cdv)) → sp vs H E →
      ∃ r, PS (gcxN P w K mg B N qual (defScope st) f cdv A ou t H E pn) st0 r ∧ r ⟨fun _ _ => False, fun _ _ => False, fun _ _ => False, fun _ _ => False⟩ (L2.start N vs) H) : GFnX P w K mg B (k + 1) f fd ps sp := by
  refine ⟨cnt, fun A ou t H ar us vs E hr e0 bi r hsp => ?_⟩
  obtain ⟨oc, od, kV, doc, pm, an, cdv, ct, osl, rfl, lk, hcd⟩ := F.ex
  have hl := cnt _ _ _ hsp
  have kin : K.In t.heap := e0.mod.kin.keeps fun b o e => (e0.bs b o e).1
  have lim := e0.mod.nolimit.keeps fun b o e => (e0.bs b o e).1
  have kinds : ∀ y ∈ ps.zip us, (defScope st).names.lookup y.1 = some .local ∨ ((defScope st).names.lookup y.1 = some .cell ∧ ((cellsFrom (t.heap.objs.size + 1) (defScope st).names []).lookup y.1).isSome = true) := fun y hy =>
    (S.par y.1 (List.of_mem_zip (a := y.1) (b := y.2) hy).1).imp id fun e => ⟨e, PySem.W.cellsFrom_some _ _ _ (.inl e)⟩
  refine codeAny_call_generator hr.depth (kin _ _ lk) rfl S.co S.gen rfl (PySem.W.codeRec_of kin hcd) (bi _ _ _ _ (wpAny_newFunctionEnv_cells S.kind kinds fun env he t1 x => ?_))
  subst he
  have lim1 := lim.keeps x.toInCall.keep
  refine ⟨lim1, ?_⟩
  obtain ⟨h1, tk, es1, hk1⟩ := x.done
  have lt1 : t.heap.objs.size < t1.heap.objs.size := x.toInCall.ns.lt
  have main : ∀ (go : Obj) (nm qn : Value) (tk2 : Nat), go.cls = .type "generator" → go.data = .fields #[.int t1.gens.size 0, nm, qn] → go.slots = #[] → (∀ h : Heap, (h.push go).get? h.objs.size = some go) →
      GMadeX P w (k + 1) ou H t E (.ref t1.heap.objs.size) { t1 with gens := t1.gens.push (.fresh (.func (defBody st) (envOfC qual (defScope st) t.heap.objs.size f cdv))), toks := tk2, heap := t1.heap.push go } := by
    intro go nm qn tk2 gc gd gs gp
    have isG : ∀ h : Heap, h.get? t1.heap.objs.size = some go → h.IsGen t1.heap.objs.size t1.gens.size := fun h e => ⟨go, nm, qn, e, gc, gd, gs⟩
    refine ⟨t1.heap.objs.size, t1.gens.size, _, rfl, Nat.le_of_lt lt1, by show _ < (t1.heap.push go).objs.size; rw [Heap.size_push]; omega, isG _ (gp _), Array.getElem?_push_size .., by rw [es1], AllBare.push (by rw [es1]; exact e0.bare) rfl, lim1.keeps fun b o e => Heap.get?_push_of_some _ e, fun b o e => Heap.get?_push_of_some _ (x.toInCall.keep b o e), fun A2 t2 hG2 hr2 hf2 hk2 ho2 hb2 => ?_⟩
    obtain ⟨tr, hps, hq⟩ := body cdv A2 ou t H vs E [(t1.heap.objs.size, go)] hG2 (hr2.deeper _) hsp
    have e2 : Env0 P w K mg B A2 ou t H := ⟨hf2, e0.mod, e0.bs, e0.bsz, e0.funs, e0.frf, e0.hok, e0.bare⟩
    have J1 := inv_startG (E := E) S hr2.hd e2 hl r x
    have J2 := J1.call' (ch := []) (s' := t2) (by rw [ho2, es1]) (Un.kept fun b o e => hk2 b o (Heap.get?_push_of_some _ e)) (J1.hok.kept fun b o e => hk2 b o (Heap.get?_push_of_some _ e)) hb2 fun b z => by simp at z
    have young : H t1.heap.objs.size = none ∧ t1.heap.objs.size ≠ t.heap.objs.size ∧ t1.heap.objs.size ∉ frs ou := ⟨J1.hok.fresh (Nat.le_refl _), Nat.ne_of_gt lt1, J1.nofs (Nat.le_refl _)⟩
    have J3 : Inv (gcxN P w K mg B N qual (defScope st) f cdv A2 ou t H E [(t1.heap.objs.size, go)]) [] (L2.start N vs) H t2 := by
      refine ⟨⟨J2.ok.mod, J2.ok.kind, J2.ok.glob, J2.ok.blt, J2.ok.above, J2.ok.inj, J2.ok.has, J2.ok.cab, J2.ok.hd, J2.ok.frames, J2.ok.stk, J2.ok.exf, J2.ok.bs, J2.ok.bsz, J2.ok.noex, J2.ok.exfs, J2.ok.funs, J2.ok.frf⟩, J2.os, J2.bare, J2.base, J2.loc, J2.cell, J2.free, J2.freeC, fun q hq => ?_, J2.hok, J2.len⟩
      rw [List.mem_singleton.mp (show q ∈ [(t1.heap.objs.size, go)] from hq)]
      exact ⟨hk2 _ _ (gp _), young.1, young.2.1, young.2.2, fun v z => by rw [gd] at z; cases z⟩
    refine seg_func ?_
    rw [hb]
    refine seg_execs_cons (seg_wrap ?_)
    rw [over_func]
    refine wpAny_mono (hps.run [] t2 (L2.start N vs) H _ J3 hq) (fun fl t3 z => ?_) (fun e t3 z => ?_)
    · cases fl with
      | next => obtain ⟨_, _, _, z⟩ := z; exact z.elim
      | brk => obtain ⟨_, _, _, z⟩ := z; exact z.elim
      | cont => obtain ⟨_, _, _, z⟩ := z; exact z.elim
      | ret u => obtain ⟨_, _, _, _, _, z⟩ := z; exact z.elim
    · refine seg_wrap ?_
      rw [over_func]
      refine wpAny_mono (show wpAny (model P w) (A2.deeper (envOfC qual (defScope st) t.heap.objs.size f cdv)) (leaving (envOfC qual (defScope st) t.heap.objs.size f cdv) e) (fun _ t4 => L2N.CX P w ou H t E e t4 ∧ ∀ q ∈ [(t1.heap.objs.size, go)], t4.heap.get? q.1 = some q.2) (fun _ _ => False) t3 from z) (fun _ t4 y => ?_) fun _ _ y => y.elim
      exact seg_end (.error e) ⟨e, rfl, y.1, isG _ (y.2 _ (List.mem_singleton.mpr rfl))⟩
  exact main _ _ _ _ rfl rfl rfl fun h => Heap.get?_push_size _ rfl
/-! ### woken: it raises; list(g) of it -/
theorem notStopN {P : Program} {w : World} {K : PySem.W.Frag} {ou : List Env} {H : Hp} {t t1 : Shared} {E : XK} {e : Value} (hE : NoStop K E) (kin : K.In t1.heap) (c : L2N.CX P w ou H t E e t1) : NotStop (model P w) e t1.heap := by
  obtain ⟨a, B, H1, cl, d, rfl, fl, _, _, _, _, _, hw⟩ := c
  obtain ⟨oe, vs, he, hz, _⟩ := fl.there
  intro A Q X t2 e2 hq
  simp only [isInstance]
  refine wpAny_bind (wpAny_typeOf_ref (o := oe) (e2 ▸ he) ?_)
  rw [hz.1]
  exact PySem.W.looks_subIn (M := model P w) kin (hE cl d H1 hw) A Q X t2 (fun b o z => e2 ▸ z) hq
section
variable {P : Program} {w : World} {k : Nat} {ou : List Env} {H : Hp} {t t1 t2 : Shared} {E : XK} {a : Addr} {n : Nat} {c : Code} {A : Around} {Ex : Value → Shared → Prop}
/-- next(g) -/
theorem MadeX.next {Q : Option Value → Shared → Prop} (h : MadeX P w k ou H t E a n c t1) (hr : Room (k + 1) A) (hG : A.guards = some []) (hf : A.frames = some ou) (kp : ∀ b o, t1.heap.get? b = some o → t2.heap.get? b = some o) (os : t2.os = t1.os) (gs : t2.gens = t1.gens)
    (hE : ∀ e t3, L2N.CX P w ou H t E e t3 → NotStop (model P w) e t3.heap ∧ Ex e (t3.setGen n .finished)) : wpAny (model P w) A (pyNext (.ref a)) Q Ex t2 := by
  have hl : t2.heap.NoLimit := h.lim.keeps kp
  have hn : t2.gens[n]? = some (.fresh c) := by rw [gs]; exact h.fresh
  refine next_genG (n := sizeLine) (F := fun _ _ _ => False) (Er := fun e t3 => L2N.CX P w ou H t E e t3 ∧ t3.heap.IsGen a n) (Y := YNo) hr.hd hl hr.depth (h.gen.keeps kp) hn ?_ (fun v t3 gs' _ z => z.elim) (fun t3 z => z.elim) (fun e t3 z => ?_)
  · have := h.wake A.in1 (t2.setGen n .running) hG hr.in1 hf kp (os.trans h.os) (allBare_setGen (by rw [gs]; exact h.bare) rfl)
    exact ⟨rfl, seg_imp (R' := fun _ _ r t3 => ((r = .ok (.ret .none) ∨ r = .ok .next) ∧ False) ∨ ∃ e, r = .error e ∧ L2N.CX P w ou H t E e t3 ∧ t3.heap.IsGen a n) (fun _ _ r t3 z => .inr z) (fun _ _ _ _ _ _ _ z => z.elim) sizeLine this⟩
  · obtain ⟨y1, y2⟩ := hE e t3 z.1
    exact ⟨z.2, y1, y2⟩
/-- list(g) -/
theorem MadeX.list {Q : Value → Shared → Prop} (h : MadeX P w k ou H t E a n c t1) (hr : Room (k + 3) A) (hG : A.guards = some []) (hf : A.frames = some ou)
    (hE : ∀ e t3, L2N.CX P w ou H t E e t3 → NotStop (model P w) e t3.heap ∧ Ex e (t3.setGen n .finished)) : wpAny (model P w) A (PySem.call (.type "list") [.ref a]) Q Ex t1 := by
  obtain ⟨S, eS⟩ : ∃ S, S = t1.heap.objs.size := ⟨_, rfl⟩
  obtain ⟨lo, elo⟩ : ∃ lo : Obj, lo = { cls := .type "list", data := .seq #[] } := ⟨_, rfl⟩
  have SA : S ≠ a := by rw [eS]; exact Nat.ne_of_gt h.high
  refine callType_codes (Q₁ := fun x t2 => x = .ref S ∧ t2 = { t1 with heap := t1.heap.push lo }) PySem.F.called_list (PySem.F.typeCall_list_1 _) PySem.F.entry_list_init (code_list_new _ (by rw [eS, elo]; exact ⟨rfl, rfl⟩)) fun x t2 hx => ?_
  obtain ⟨rfl, rfl⟩ := hx
  have g0 : (t1.heap.push lo).get? S = some lo := by rw [eS]; exact Heap.get?_push_size _ (by rw [elo]; rfl)
  refine ⟨⟨lo, g0, by rw [elo]⟩, PySem.F.args_list_init_2 _ _, ?_⟩
  have k0 : ∀ b o, t1.heap.get? b = some o → (t1.heap.push lo).get? b = some o := fun b o e => Heap.get?_push_of_some _ e
  have step : ∀ (hp : Heap) (f : Obj → Obj), (∀ b o, t1.heap.get? b = some o → hp.get? b = some o) → ∀ b o, t1.heap.get? b = some o → (hp.update S f).get? b = some o := fun hp f q b o e =>
    (Heap.get?_update_other _ _ (by rw [eS]; exact Nat.ne_of_gt (Heap.lt_size e))).trans (q b o e)
  have isG : ∀ {t2 : Shared}, (∀ b o, t1.heap.get? b = some o → t2.heap.get? b = some o) → t2.heap.IsGen a n := fun q => h.gen.keeps q
  show wpAny _ _ (Builtin.List.listItems (.ref S) >>= fun old => Builtin.List.listUpdate (.ref S) (fun _ => #[]) >>= fun _ => letGo old.toList.reverse >>= fun _ => Builtin.List.listExtendWith (.ref S) (.ref a) .none) _ _ _
  have d0 : lo.data = .seq #[] := by rw [elo]
  unfold Builtin.List.listItems
  refine wpAny_bind (wpAny_bind (wpAny_seqItems g0 d0 (wpAny_pure (wpAny_bind ?_))))
  show wpAny _ _ (updateSeq S fun _ => #[]) _ _ _
  refine wpAny_updateSeq g0 d0 (wpAny_bind (wpAny_letGo ?_))
  have g1 := Heap.get?_update_self (Obj.mapSeq fun _ => (#[] : Array Value)) g0 (by rw [elo]; rfl)
  have k1 := step _ (Obj.mapSeq fun _ => (#[] : Array Value)) k0
  have d1 : (lo.mapSeq fun _ => (#[] : Array Value)).data = .seq #[] := by rw [elo]; rfl
  unfold Builtin.List.listExtendWith
  refine wpAny_bind (wpAny_typeOf (Heap.IsGen.typeIs (s := { t1 with heap := _ }) (isG k1)) ?_)
  rw [if_neg (by show ¬ ((Builtin.List.listSameRef (.ref S) (.ref a) || Value.type "generator" == Value.type "list") || Value.type "generator" == Value.type "tuple") = true; simp [Builtin.List.listSameRef, SA])]
  refine wpAny_bind (wpAny_pyIter_gen (s := { t1 with heap := _ }) (isG k1) (wpAny_bind (wpAny_holding ?_)))
  unfold Builtin.List.listLengthHint
  refine wpAny_bind (wpAny_specialOf (Heap.IsGen.typeIs (s := { t1 with heap := _ }) (isG k1)) PySem.F.gen_no_len ?_)
  refine wpAny_bind (m := specialOf (.ref a) (Str.ofString "__length_hint__")) (wpAny_specialOf (Heap.IsGen.typeIs (s := { t1 with heap := _ }) (isG k1)) PySem.F.gen_no_hint (wpAny_pure (wpAny_bind (m := rule "list.extend.makes-room") (wpAny_rule (wpAny_bind (m := Builtin.List.listTouch (.ref S)) ?_)))))
  have u2 := Heap.get?_update_self (Obj.mapSeq (·.push Value.none)) g1 (by rw [elo]; rfl)
  show wpAny _ _ (updateSeq S (·.push .none) >>= fun _ => updateSeq S (·.pop)) _ _ _
  refine wpAny_bind (wpAny_updateSeq g1 d1 (wpAny_updateSeq (hz := by seq_fits) u2 (by rw [elo]; rfl) (wpAny_pure ⟨plainId_quiet PySem.F.plain_extend_loop _, ?_⟩)))
  have k2 := step _ (Obj.mapSeq (·.pop)) (step _ (Obj.mapSeq (·.push Value.none)) k1)
  refine codeAny_builtin PySem.F.entry_extend_loop ?_
  rw [Around.under_plainId PySem.F.plain_extend_loop _]
  show wpAny _ A.in1.in1 (pyNext (.ref a) >>= _) _ _ _
  exact wpAny_bind (h.next hr.in1.in1 hG hf k2 rfl rfl hE)
end
section
variable {X : Cx} {W : WX} {k : Nat} {f : Addr} {fd : FuncData} {ps : List Str} {sp : SpX} {x nm : Str} {p p2 pos pos' : Pos} {e : Expr} {es : List Expr} {t : TA}
/-- what is raised is no StopIteration -/
def NoSt (K : PySem.W.Frag) (cls : Value) : Prop := PySem.W.subIn K cls (.type "StopIteration") = some false
theorem stays_in {pins : List (Addr × Obj)} {σ : L2.St} {H : Hp} {s s1 : Shared} {E : XK} {u : Value} (I : Inv X pins σ H s) (c : L2N.CX X.prog X.w X.stack H s E u s1) : X.K.In s1.heap := by
  obtain ⟨a, B, H1, cl, d, _, fl, _, ub, _⟩ := c
  refine I.ok.mod.kin.keeps fun b o eb => fl.1 b o (ub.keep b o (I.bs b o eb).1 (I.bs b o eb).2 fun hm => ?_)
  rcases List.mem_cons.mp (I.stkSub b hm) with z | z
  · exact Nat.lt_irrefl _ (Nat.lt_of_lt_of_le (z ▸ Heap.lt_size eb) (Nat.le_trans I.ok.bsz I.ok.above))
  · exact I.ok.nofr eb z
theorem cx_fin {P : Program} {w : World} {ou : List Env} {H : Hp} {t t1 : Shared} {E : XK} {u : Value} {n : Nat} (c : L2N.CX P w ou H t E u t1) : L2N.CX P w ou H t E u (t1.setGen n .finished) := by
  obtain ⟨a, B, H1, cl, d, z1, z2, z3, z4, z5, z6, z7, z8⟩ := c
  exact ⟨a, B, H1, cl, d, z1, z2, z3, z4, z5, z6, allBare_setGen z7 rfl, z8⟩
def tListX (K : PySem.W.Frag) (sp : SpX) (W : WX) (t : TA) : TE := fun σ H _ => t σ H fun vs H1 => sp vs H1 fun cls d H' => NoSt K cls ∧ W cls d σ H'
/-- list(g(e, ..)), which raises -/
theorem pe_listX (F : GFnX X.prog X.w X.K X.mg X.base k f fd ps sp) (hG : X.A.guards = some []) (hr : Room (k + 3) X.A) (hg : Gl X x) (hm : X.mg x = some (.ref f)) (hk : PySem.W.keepIn X.K (.ref f) = true) (hb : Binds X.K fd ps []) (tk : L2N.Takes X W)
    (ha : PA X (e :: es) t) (hl : Gl X nm) (hn : X.mg nm = none) (hv : bootBuiltins nm = some (.type "list")) (hnm : nm ≠ "__name__" := by decide) (hd1 : (x == ("__debug__" : Str)) = false := by decide) (hd2 : (nm == ("__debug__" : Str)) = false := by decide)
    (he : starEach (e :: es) X.env = (false, eval e X.env) :: starEach es X.env := by rfl) (hpl : (backTo pos' (starEach es X.env)).any (·.1) = false := by rfl)
    (he2 : starEach [.Call (.Name x p) (e :: es) [] pos'] X.env = (false, eval (.Call (.Name x p) (e :: es) [] pos') X.env) :: starEach [] X.env := by rfl) :
    PE X (.Call (.Name nm p2) [.Call (.Name x p) (e :: es) [] pos'] [] pos) (tListX X.K sp W t) := by
  refine ⟨fun pins s σ H Q I z => wpAny_Call_Name_kw (ld_blt I hl hn hv (PyProof.Rows.callWith_type1 ?_ he2 rfl) hnm hd2)⟩
  rw [he2]
  show wpAny _ _ (spliced ((false, eval (.Call (.Name x p) (e :: es) [] pos') X.env) :: backTo pos (starEach [] X.env))) _ _ s
  refine Calls.spliced_cons ?_
  refine thn (Q := fun u s1 => ∃ H1 sc, Inv X pins σ H1 sc ∧ ∃ E : XK, (∀ c d H', E c d H' → NoSt X.K c ∧ W c d σ H') ∧ GMadeX X.prog X.w k X.stack H1 sc E u s1) (wpAny_Call_Name_kw (ld_glob I hg hm ?_ hd1)) fun u s1 ⟨H1, sc, J, E, hE, a, n, c, eu, M⟩ => Calls.spliced_nil ?_
  · refine PySem.W.callWith_K (h₀ := X.base) I.ok.mod.kin hk (thn (ha.run pos' pins s σ H _ I z) fun us s1 ⟨vs, H1, J, r, q⟩ => ⟨J.kIn, ?_⟩) he hpl
    have hlen : us.length = ps.length := r.length ▸ F.cnt _ _ _ q
    have bd := hb s1 us J.kIn (by rw [List.append_nil]; exact hlen)
    rw [List.append_nil] at bd
    refine wpAny_call (codeAny_mono (F.go X.A X.stack s1 H1 ⟨us, []⟩ us vs _ (hr.mono (by omega)) J.env0 bd r q) fun r s2 y => ?_)
    match r, y with
    | .ok (.ret u), y => exact ⟨H1, s1, J, _, fun c d H' h => h, y⟩
    | .error _, y => exact y.elim
    | .ok .next, y => exact y.elim
    | .ok .brk, y => exact y.elim
    | .ok .cont, y => exact y.elim
  · subst eu
    refine M.list hr hG J.ok.frames fun e2 s2 y => ?_
    refine ⟨notStopN (fun c d H' h => (hE c d H' h).1) (stays_in J y) y, tk _ _ (L2N.XE.of_call J (fun c d H' h => (hE c d H' h).2) (cx_fin y))⟩
end
/-- by either of two ways -/
def tEither (t u : TE) : TE := fun σ H Q => t σ H Q ∨ u σ H Q
theorem pe_either {X : Cx} {e : Expr} {t u : TE} (a : PE X e t) (b : PE X e u) : PE X e (tEither t u) := ⟨fun pins s σ H Q I z => z.elim (a.run pins s σ H Q I) (b.run pins s σ H Q I)⟩
section
variable {K : PySem.W.Frag} {σ : L2.St} {H : Hp} {Q : VK} {sp : SpX} {W : WX} {t : TA}
theorem r_listX (h : t σ H fun vs H1 => sp vs H1 fun cls d H' => NoSt K cls ∧ W cls d σ H') : tListX K sp W t σ H Q := h
end
end Xk
local macro_rules | `(tactic| fail "ww1") => `(tactic| with_reducible refine Xk.r_listX ?_)

set_option Elab.async false
set_option linter.all false
set_option maxRecDepth 100000
set_option maxHeartbeats 20000000
namespace Xk
open PySem PySem.Spec PyProof.Rows L2 GenW
open Sem (wp)
/-! ### what sleeps stays asleep: a run that would not wake it leaves it as it is -/
/-- the same to look at, but it cannot be woken -/
def psn : GenState → GenState
  | .suspended _ l c p fs cl => .suspended (fun _ => .unsupported "") l c p fs cl
  | x => x
def PlainG (x : GenState) : Prop := ∀ k l c p fs cl, x = .suspended k l c p fs cl → splitAtGen fs = none
def PlainE : End → Prop
  | .susp _ _ _ _ _ _ fs => splitAtGen fs = none
  | .ret _ => True
theorem sag_cons {F : Frame} {fs : List Frame} (h : splitAtGen (F :: fs) = none) : splitAtGen fs = none := by
  cases F with
  | ret => simpa [splitAtGen] using h
  | gen => simp [splitAtGen] at h
theorem sag_app : ∀ {a b : List Frame}, splitAtGen a = none → splitAtGen b = none → splitAtGen (a ++ b) = none
  | [], _, _, hb => hb
  | F :: a, b, ha, hb => by
    have := sag_app (sag_cons ha) hb
    cases F with
    | ret => simpa [splitAtGen] using this
    | gen => simp [splitAtGen] at ha
theorem plainG_of {e : End} (h : PlainE e) : PlainG e.genState := by
  intro k l c p fs cl q
  cases e with
  | ret => simp [End.genState] at q
  | susp v g l k c p fs => simp [End.genState] at q; obtain ⟨_, _, _, _, q, _⟩ := q; rw [← q]; exact h
section
variable {G0 : Nat → Option GenState}
/-- awake again -/
def un (G0 : Nat → Option GenState) (t : Shared) : Shared := { t with gens := t.gens.mapIdx fun i g => (G0 i).getD g }
structure Pz (G0 : Nat → Option GenState) (t : Shared) : Prop where
  inn : ∀ i gs, G0 i = some gs → t.gens[i]? = some (psn gs) ∧ ∃ k l c p fs cl, gs = .suspended k l c p fs cl
  out : ∀ i gs, G0 i = none → t.gens[i]? = some gs → PlainG gs
theorem un_size (t : Shared) : (un G0 t).gens.size = t.gens.size := by simp [un]
theorem un_out {t : Shared} {i : Nat} (h : G0 i = none) : (un G0 t).gens[i]? = t.gens[i]? := by
  simp [un, h]
theorem un_inn {t : Shared} {i : Nat} {gs : GenState} (z : Pz G0 t) (h : G0 i = some gs) : (un G0 t).gens[i]? = some gs := by
  simp [un, h, (z.inn i gs h).1]
theorem un_set {t : Shared} {g : Nat} {x : GenState} (h : G0 g = none) : un G0 (t.setGen g x) = (un G0 t).setGen g x := by
  unfold un Shared.setGen
  congr 1
  apply Array.ext
  · simp
  · intro i h1 h2
    have e1 : ∀ (l : Array GenState) (hl : i < l.size), l[i]? = some l[i] := fun l hl => Array.getElem?_eq_getElem hl
    refine Option.some.inj ?_
    rw [← e1, ← e1]
    by_cases e : g = i
    · subst e
      simp only [Array.getElem?_mapIdx, Array.getElem?_setIfInBounds, Array.size_mapIdx, if_true]
      split <;> simp [h]
    · simp only [Array.getElem?_mapIdx, Array.getElem?_setIfInBounds, if_neg e]
theorem un_push {t : Shared} {c : Code} (z : Pz G0 t) : un G0 { t with gens := t.gens.push (.fresh c) } = { un G0 t with gens := (un G0 t).gens.push (.fresh c) } := by
  unfold un
  congr 1
  have e : G0 t.gens.size = none := by
    cases h : G0 t.gens.size with
    | none => rfl
    | some gs => have := (z.inn _ _ h).1; simp at this
  simp [Array.mapIdx_push, e]
theorem Pz.set {t : Shared} {g : Nat} {x : GenState} (z : Pz G0 t) (h : G0 g = none) (hx : PlainG x) : Pz G0 (t.setGen g x) := by
  have ne : ∀ i, i ≠ g → (t.setGen g x).gens[i]? = t.gens[i]? := fun i hi => by
    show (t.gens.setIfInBounds g x)[i]? = _
    rw [Array.getElem?_setIfInBounds_ne (Ne.symm hi)]
  refine ⟨fun i gs q => ?_, fun i gs q e => ?_⟩
  · rw [ne i (fun e => by rw [e, h] at q; cases q)]; exact z.inn i gs q
  · by_cases hi : i = g
    · subst hi
      have : gs = x := by
        have hl : i < t.gens.size := by
          have := (Array.getElem?_eq_some_iff.mp e).1
          rw [setGen_size] at this; exact this
        rw [setGen_at hl] at e; cases e; rfl
      rw [this]; exact hx
    · rw [ne i hi] at e; exact z.out i gs q e
theorem Pz.push {t : Shared} {c : Code} (z : Pz G0 t) : Pz G0 { t with gens := t.gens.push (.fresh c) } := by
  refine ⟨fun i gs q => ?_, fun i gs q e => ?_⟩
  · obtain ⟨h1, h2⟩ := z.inn i gs q
    refine ⟨?_, h2⟩
    have hl := (Array.getElem?_eq_some_iff.mp h1).1
    show (t.gens.push (.fresh c))[i]? = _
    rw [Array.getElem?_push_lt hl, ← h1, Array.getElem?_eq_getElem hl]
  · have e' : (t.gens.push (.fresh c))[i]? = some gs := e
    by_cases hi : i = t.gens.size
    · rw [hi, Array.getElem?_push_size] at e'
      cases e'
      intro k l c p fs cl y; cases y
    · rw [Array.getElem?_push, if_neg hi] at e'
      exact z.out i gs q e'
theorem Pz.same {t t' : Shared} (z : Pz G0 t) (e : t'.gens = t.gens) : Pz G0 t' := ⟨fun i gs q => by rw [e]; exact z.inn i gs q, fun i gs q y => z.out i gs q (by rw [← e]; exact y)⟩
theorem plain_run : PlainG .running := fun _ _ _ _ _ _ y => by cases y
theorem plain_fin : PlainG .finished := fun _ _ _ _ _ _ y => by cases y
theorem no_unsup {M : Model} {Γ : PySem.Ctx} {p : Pos} {w : String} {fs : List Frame} {s s' : Shared} {e : End} (h : Runs M Γ p (.unsupported w) fs s e s') : False := by
  cases h with
  | segRet a _ => cases a
  | segGen a _ => cases a
  | segSuspOut _ a => cases a
  | segSuspGen _ a => cases a
theorem pz_seen {t : Shared} {g : Nat} {st : GenState} (z : Pz G0 t) (h : t.gens[g]? = some st) : ∃ st', (un G0 t).gens[g]? = some st' ∧ st'.seen = st.seen := by
  cases q : G0 g with
  | none => exact ⟨st, (un_out q).trans h, rfl⟩
  | some gs =>
    obtain ⟨h1, k, l, c, p, fs, cl, rfl⟩ := z.inn g gs q
    rw [h1] at h; cases h
    exact ⟨_, un_inn z q, rfl⟩
theorem pz_none {t : Shared} {g : Nat} {st : GenState} (z : Pz G0 t) (h : t.gens[g]? = some st) (hn : ∀ k l c p fs cl, st ≠ .suspended k l c p fs cl) : G0 g = none := by
  cases q : G0 g with
  | none => rfl
  | some gs =>
    obtain ⟨h1, k, l, c, p, fs, cl, rfl⟩ := z.inn g gs q
    rw [h1] at h; cases h
    exact absurd rfl (hn _ _ _ _ _ _)
theorem runs_pz {M : Model} {Γ : PySem.Ctx} {p : Pos} {tr : Sem PySem.Fin} {fs : List Frame} {t t' : Shared} {e : End} (h : Runs M Γ p tr fs t e t') :
    splitAtGen fs = none → Pz G0 t → Runs M Γ p tr fs (un G0 t) e (un G0 t') ∧ Pz G0 t' ∧ PlainE e := by
  induction h with
  | done => exact fun _ z => ⟨.done, z, trivial⟩
  | raise => exact fun _ z => ⟨.raise, z, trivial⟩
  | again hq _ ih => intro hf z; obtain ⟨a, b, c⟩ := ih rfl z; exact ⟨.again hq a, b, c⟩
  | rule _ ih => intro hf z; obtain ⟨a, b, c⟩ := ih rfl z; exact ⟨.rule a, b, c⟩
  | «at» _ ih => intro hf z; obtain ⟨a, b, c⟩ := ih rfl z; exact ⟨.at a, b, c⟩
  | load ho _ ih => intro hf z; obtain ⟨a, b, c⟩ := ih rfl z; exact ⟨.load ho a, b, c⟩
  | update ho _ ih => intro hf z; obtain ⟨a, b, c⟩ := ih rfl (z.same rfl); exact ⟨.update ho a, b, c⟩
  | loadIfAlive _ ih => intro hf z; obtain ⟨a, b, c⟩ := ih rfl z; exact ⟨.loadIfAlive a, b, c⟩
  | point _ ih => intro hf z; obtain ⟨a, b, c⟩ := ih rfl z; exact ⟨.point a, b, c⟩
  | alloc _ ih => intro hf z; obtain ⟨a, b, c⟩ := ih rfl (z.same rfl); exact ⟨.alloc a, b, c⟩
  | fresh _ ih => intro hf z; obtain ⟨a, b, c⟩ := ih rfl (z.same rfl); exact ⟨.fresh a, b, c⟩
  | ask _ ih => intro hf z; obtain ⟨a, b, c⟩ := ih rfl z; exact ⟨.ask a, b, c⟩
  | choose hn _ ih => intro hf z; obtain ⟨a, b, c⟩ := ih rfl (z.same rfl); exact ⟨.choose hn a, b, c⟩
  | os _ ih => intro hf z; obtain ⟨a, b, c⟩ := ih rfl (z.same rfl); exact ⟨.os a, b, c⟩
  | handled _ ih => intro hf z; obtain ⟨a, b, c⟩ := ih rfl z; exact ⟨.handled a, b, c⟩
  | genState hg _ ih =>
    intro hf z
    obtain ⟨a, b, c⟩ := ih rfl z
    obtain ⟨st', h1, h2⟩ := pz_seen z hg
    exact ⟨.genState h1 (by rw [h2]; exact a), b, c⟩
  | stack _ ih => intro hf z; obtain ⟨a, b, c⟩ := ih rfl z; exact ⟨.stack a, b, c⟩
  | thread _ ih => intro hf z; obtain ⟨a, b, c⟩ := ih rfl z; exact ⟨.thread a, b, c⟩
  | newGen _ ih =>
    intro hf z
    obtain ⟨a, b, c⟩ := ih rfl z.push
    refine ⟨.newGen ?_, b, c⟩
    rw [un_push z] at a
    rw [un_size]
    exact a
  | call _ _ ih1 ih2 =>
    intro hf z
    obtain ⟨a1, b1, _⟩ := ih1 rfl z
    obtain ⟨a2, b2, c2⟩ := ih2 rfl b1
    exact ⟨.call a1 a2, b2, c2⟩
  | callSusp _ ih =>
    intro hf z
    obtain ⟨a1, b1, c1⟩ := ih rfl z
    exact ⟨.callSusp a1, b1, sag_app c1 rfl⟩
  | yield => exact fun _ z => ⟨.yield, z, rfl⟩
  | resumeFresh hg _ hq _ ih1 ih2 =>
    intro hf z
    have q := pz_none z hg (fun _ _ _ _ _ _ y => by cases y)
    obtain ⟨a1, b1, c1⟩ := ih1 rfl (z.set q plain_run)
    obtain ⟨a2, b2, c2⟩ := ih2 rfl (b1.set q (plainG_of c1))
    rw [un_set q] at a1
    rw [un_set q] at a2
    exact ⟨.resumeFresh ((un_out q).trans hg) a1 hq a2, b2, c2⟩
  | @resumeSuspended Γ p g r l k s k₀ l₀ c₀ p₀ fs cl e₁ s₁ e s' hg hr hq _ ih1 ih2 =>
    intro hf z
    cases q : G0 g with
    | some gs =>
      exfalso
      obtain ⟨h1, k, l, c, p, fs, cl, rfl⟩ := z.inn g gs q
      rw [h1] at hg
      cases hg
      exact no_unsup hr
    | none =>
      have pl := z.out g _ q hg k₀ l₀ c₀ p₀ fs cl rfl
      obtain ⟨a1, b1, c1⟩ := ih1 pl (z.set q plain_run)
      obtain ⟨a2, b2, c2⟩ := ih2 rfl (b1.set q (plainG_of c1))
      rw [un_set q] at a1
      rw [un_set q] at a2
      exact ⟨.resumeSuspended ((un_out q).trans hg) a1 hq a2, b2, c2⟩
  | resumeJustStarted hg hv _ ih =>
    intro hf z
    have q := pz_none z hg (fun _ _ _ _ _ _ y => by cases y)
    obtain ⟨a, b, c⟩ := ih rfl z
    exact ⟨.resumeJustStarted ((un_out q).trans hg) hv a, b, c⟩
  | resumeThrowFresh hg _ ih =>
    intro hf z
    have q := pz_none z hg (fun _ _ _ _ _ _ y => by cases y)
    obtain ⟨a, b, c⟩ := ih rfl (z.set q plain_fin)
    rw [un_set q] at a
    exact ⟨.resumeThrowFresh ((un_out q).trans hg) a, b, c⟩
  | resumeRunning hg _ ih =>
    intro hf z
    have q := pz_none z hg (fun _ _ _ _ _ _ y => by cases y)
    obtain ⟨a, b, c⟩ := ih rfl z
    exact ⟨.resumeRunning ((un_out q).trans hg) a, b, c⟩
  | resumeFinished hg _ ih =>
    intro hf z
    have q := pz_none z hg (fun _ _ _ _ _ _ y => by cases y)
    obtain ⟨a, b, c⟩ := ih rfl z
    exact ⟨.resumeFinished ((un_out q).trans hg) a, b, c⟩
  | segRet _ _ ih1 ih2 =>
    intro hf z
    obtain ⟨a1, b1, _⟩ := ih1 rfl z
    obtain ⟨a2, b2, c2⟩ := ih2 (sag_cons hf) b1
    exact ⟨.segRet a1 a2, b2, c2⟩
  | segGen _ _ _ _ => intro hf; simp [splitAtGen] at hf
  | segSuspOut hs _ ih =>
    intro hf z
    obtain ⟨a, b, c⟩ := ih rfl z
    exact ⟨.segSuspOut hs a, b, sag_app c hf⟩
  | segSuspGen hs _ _ _ _ _ => intro hf; rw [hs] at hf; cases hf
theorem wakes_pz {M : Model} {Γ : PySem.Ctx} {p : Pos} {g : Nat} {r : Resume} {t t' : Shared} {res : GenResult} (h : Wakes M Γ p g r t res t') (z : Pz G0 t) : Wakes M Γ p g r (un G0 t) res (un G0 t') ∧ Pz G0 t' := by
  unfold Wakes at h
  split at h
  · exact h.elim
  · next c hg =>
    have q := pz_none z hg (fun _ _ _ _ _ _ y => by cases y)
    split at h
    · obtain ⟨e₁, s₁, hr, hq, rfl, rfl⟩ := h
      obtain ⟨a1, b1, c1⟩ := runs_pz (G0 := G0) hr rfl (z.set q plain_run)
      refine ⟨?_, b1.set q (plainG_of c1)⟩
      unfold Wakes
      rw [(un_out q).trans hg]
      rw [un_set q] at a1
      exact ⟨e₁, _, a1, hq, rfl, un_set q⟩
    · obtain ⟨rfl, rfl⟩ := h
      refine ⟨?_, z⟩
      unfold Wakes
      rw [(un_out q).trans hg]
      next hv => split <;> first | exact ⟨rfl, rfl⟩ | (exact absurd rfl (by first | assumption | (intro y; simp_all))) | simp_all
    · obtain ⟨rfl, rfl⟩ := h
      refine ⟨?_, z.set q plain_fin⟩
      unfold Wakes
      rw [(un_out q).trans hg]
      exact ⟨rfl, un_set q⟩
  · next k₀ l₀ c₀ p₀ fs cl hg =>
    obtain ⟨e₁, s₁, hr, hq, rfl, rfl⟩ := h
    cases q : G0 g with
    | some gs =>
      exfalso
      obtain ⟨h1, k, l, c, p, fs, cl, rfl⟩ := z.inn g gs q
      rw [h1] at hg
      cases hg
      exact no_unsup hr
    | none =>
      have pl := z.out g _ q hg k₀ l₀ c₀ p₀ fs cl rfl
      obtain ⟨a1, b1, c1⟩ := runs_pz hr pl (z.set q plain_run)
      refine ⟨?_, b1.set q (plainG_of c1)⟩
      unfold Wakes
      rw [(un_out q).trans hg]
      rw [un_set q] at a1
      exact ⟨e₁, _, a1, hq, rfl, un_set q⟩
  · next hg =>
    have q := pz_none z hg (fun _ _ _ _ _ _ y => by cases y)
    obtain ⟨rfl, rfl⟩ := h
    refine ⟨?_, z⟩
    unfold Wakes
    rw [(un_out q).trans hg]
    exact ⟨rfl, rfl⟩
  · next hg =>
    have q := pz_none z hg (fun _ _ _ _ _ _ y => by cases y)
    obtain ⟨rfl, rfl⟩ := h
    refine ⟨?_, z⟩
    unfold Wakes
    rw [(un_out q).trans hg]
    exact ⟨rfl, rfl⟩
/-- what a run gives where the sleepers cannot be woken, it gives where they can, and they sleep on -/
def Aw {α : Type} (G0 : Nat → Option GenState) (Q : α → Pos → Shared → Prop) : α → Pos → Shared → Prop := fun a p s' => ∃ t', s' = un G0 t' ∧ Pz G0 t' ∧ Q a p t'
theorem wp_pz {α : Type} (M : Model) (Γ : PySem.Ctx) (tr : Sem α) : ∀ (Q : α → Pos → Shared → Prop) (E : Value → Pos → Shared → Prop) (p : Pos) (t : Shared), Pz G0 t → wp M Γ tr Q E p t → wp M Γ tr (Aw G0 Q) (Aw G0 E) p (un G0 t) := by
  induction tr with
  | pure a => intro Q E p s z h; exact ⟨s, rfl, z, h⟩
  | raise e => intro Q E p s z h; exact ⟨s, rfl, z, h⟩
  | unsupported _ => intro Q E p s _ h; exact h
  | finish _ => intro Q E p s _ h; exact h
  | rule _ k ih => intro Q E p s z h; exact ih () Q E p s z h
  | «at» p' k ih => intro Q E p s z h; exact ih () Q E p' s z h
  | load a _ k ih => intro Q E p s z h; obtain ⟨o, ho, h⟩ := h; exact ⟨o, ho, ih o Q E p s z h⟩
  | update a _ f k ih => intro Q E p s z h; exact ⟨h.1, ih () Q E p _ (z.same (t' := { s with heap := s.heap.update a f }) rfl) h.2⟩
  | loadIfAlive a k ih => intro Q E p s z h; exact ih _ Q E p s z h
  | point _ k ih => intro Q E p s z h; exact ih () Q E p s z h
  | register _ _ => intro Q E p s _ h; exact h
  | alloc o k ih => intro Q E p s z h; exact ih _ Q E p _ (z.same (t' := { s with heap := s.heap.push o }) rfl) h
  | fresh k ih => intro Q E p s z h; exact ih _ Q E p _ (z.same (t' := { s with toks := s.toks + 1 }) rfl) h
  | ask k ih => intro Q E p s z h; exact ih _ Q E p s z h
  | choose src m k ih => intro Q E p s z h; exact ⟨h.1, ih _ Q E p _ (z.same (t' := { s with drawn := s.drawn.bump src }) rfl) h.2⟩
  | os q _ k ih => intro Q E p s z h; exact ih _ Q E p _ (z.same (t' := { s with os := (Os.step s.os q).1 }) rfl) h
  | call c hd _ _ k ih =>
    intro Q E p s z h
    obtain ⟨r, s', hr, h⟩ := h
    obtain ⟨a, b, _⟩ := runs_pz (G0 := G0) hr rfl z
    exact ⟨r, _, a, ih r Q E p s' b h⟩
  | handled own k ih => intro Q E p s z h; exact ih _ Q E p s z h
  | genState g k ih =>
    intro Q E p s z h
    obtain ⟨st, hs, h⟩ := h
    obtain ⟨st', h1, h2⟩ := pz_seen z hs
    exact ⟨st', h1, by rw [h2]; exact ih _ Q E p s z h⟩
  | newGen c k ih =>
    intro Q E p s z h
    have := ih _ Q E p _ z.push h
    rw [un_push z] at this
    show wp M Γ (k (un G0 s).gens.size) _ _ p { un G0 s with gens := (un G0 s).gens.push (.fresh c) }
    rw [un_size]
    exact this
  | resume g r _ k ih =>
    intro Q E p s z h
    obtain ⟨res, s', hw, h⟩ := h
    obtain ⟨a, b⟩ := wakes_pz (G0 := G0) hw z
    exact ⟨res, _, a, ih res Q E p s' b h⟩
  | yield _ _ _ _ => intro Q E p s _ h; exact h
  | stack k ih => intro Q E p s z h; exact ih _ Q E p s z h
  | fork _ _ => intro Q E p s _ h; exact h
  | thread k ih => intro Q E p s z h; exact ih _ Q E p s z h
  | await _ _ _ _ _ => intro Q E p s _ h; exact h
end
/-! ### in words of wpAny -/
section
open Classical
/-- all that sleep, but those of x, cannot be woken -/
noncomputable def lull (x : Nat → Prop) (s : Shared) : Shared := { s with gens := s.gens.mapIdx fun i g => if x i then g else psn g }
noncomputable def slp (x : Nat → Prop) (s : Shared) : Nat → Option GenState := fun i => if x i then none else match s.gens[i]? with
  | some (.suspended k l c p fs cl) => some (.suspended k l c p fs cl)
  | _ => none
theorem slp_some {x : Nat → Prop} {s : Shared} {i : Nat} {gs : GenState} (h : slp x s i = some gs) : ¬ x i ∧ s.gens[i]? = some gs ∧ ∃ k l c p fs cl, gs = .suspended k l c p fs cl := by
  unfold slp at h
  by_cases hx : x i
  · rw [if_pos hx] at h; cases h
  · rw [if_neg hx] at h
    refine ⟨hx, ?_⟩
    split at h
    · next e => cases h; exact ⟨e, _, _, _, _, _, _, rfl⟩
    · cases h
theorem slp_none {x : Nat → Prop} {s : Shared} {i : Nat} {k l c p fs cl} (h : slp x s i = none) (e : s.gens[i]? = some (.suspended k l c p fs cl)) : x i := by
  unfold slp at h
  by_cases hx : x i
  · exact hx
  · rw [if_neg hx, e] at h; cases h
theorem un_lull (x : Nat → Prop) (s : Shared) : un (slp x s) (lull x s) = s := by
  obtain ⟨h, g, d, t, o⟩ := s
  unfold un lull
  congr 1
  apply Array.ext
  · simp
  · intro i h1 h2
    refine Option.some.inj ?_
    have hi : i < g.size := h2
    rw [← Array.getElem?_eq_getElem h1, ← Array.getElem?_eq_getElem h2]
    simp only [Array.getElem?_mapIdx, Array.getElem?_eq_getElem hi, Option.map_some]
    congr 1
    cases q : slp x ⟨h, g, d, t, o⟩ i with
    | some gs =>
      have := (slp_some q).2.1
      rw [show (⟨h, g, d, t, o⟩ : Shared).gens[i]? = some g[i] from Array.getElem?_eq_getElem hi] at this
      cases this; rfl
    | none =>
      show (if x i then g[i] else psn g[i]) = g[i]
      by_cases hx : x i
      · rw [if_pos hx]
      · rw [if_neg hx]
        cases e : g[i] with
        | suspended k l c p fs cl => exact absurd (slp_none (s := ⟨h, g, d, t, o⟩) q ((Array.getElem?_eq_getElem hi).trans (congrArg some e))) hx
        | _ => rfl
theorem psn_bare {g : GenState} (h : g.bare = true) : (psn g).bare = true := by cases g <;> exact h
theorem lull_bare {x : Nat → Prop} {s : Shared} (h : AllBare s.gens) : AllBare (lull x s).gens := fun y hy => by
  obtain ⟨i, hi, e⟩ := Array.mem_iff_getElem.mp hy
  have hi' : i < s.gens.size := by simpa [lull] using hi
  have e' : (if x i then s.gens[i] else psn s.gens[i]) = y := by rw [← e]; simp [lull]
  have b := h s.gens[i] (Array.getElem_mem hi')
  rw [← e']
  split
  · exact b
  · exact psn_bare b
theorem lull_pz {x : Nat → Prop} {s : Shared} (hx : ∀ i gs, x i → s.gens[i]? = some gs → PlainG gs) : Pz (slp x s) (lull x s) := by
  have at_ : ∀ i gs, s.gens[i]? = some gs → (lull x s).gens[i]? = some (if x i then gs else psn gs) := fun i gs e => by simp [lull, e]
  refine ⟨fun i gs q => ?_, fun i gs q e => ?_⟩
  · obtain ⟨h1, h2, h3⟩ := slp_some q
    refine ⟨?_, h3⟩
    rw [at_ i gs h2, if_neg h1]
  · have hi : i < s.gens.size := by
      have := (Array.getElem?_eq_some_iff.mp e).1
      simpa [lull] using this
    rw [at_ i _ (Array.getElem?_eq_getElem hi)] at e
    by_cases hx' : x i
    · rw [if_pos hx'] at e
      cases e
      exact hx i _ hx' (Array.getElem?_eq_getElem hi)
    · rw [if_neg hx'] at e
      cases e
      intro k l c p fs cl y
      cases z : s.gens[i] with
      | suspended k l c p fs cl => exact absurd (slp_none q ((Array.getElem?_eq_getElem hi).trans (congrArg some z))) hx'
      | _ => rw [z] at y; cases y
/-- what stands behind a run under which the sleepers were left alone -/
structure Left (x : Nat → Prop) (s t' s' : Shared) : Prop where
  heap : s'.heap = t'.heap
  os : s'.os = t'.os
  size : s.gens.size ≤ s'.gens.size
  stay : ∀ i k l c p fs cl, ¬ x i → s.gens[i]? = some (.suspended k l c p fs cl) → s'.gens[i]? = some (.suspended k l c p fs cl)
  bare : AllBare s.gens → AllBare t'.gens → AllBare s'.gens
theorem left_of {x : Nat → Prop} {s t' : Shared} (z : Pz (slp x s) t') (hz : s.gens.size ≤ t'.gens.size) : Left x s t' (un (slp x s) t') := by
  refine ⟨rfl, rfl, by rw [un_size]; exact hz, fun i k l c p fs cl hx e => un_inn z ?_, fun hb hb' y hy => ?_⟩
  · unfold slp; rw [if_neg hx, e]
  · obtain ⟨i, hi, e⟩ := Array.mem_iff_getElem.mp hy
    have hi' : i < t'.gens.size := by rw [← un_size (G0 := slp x s)]; exact hi
    have e' : ((slp x s i).getD t'.gens[i]) = y := by rw [← e]; simp [un]
    rw [← e']
    cases q : slp x s i with
    | none => exact hb' _ (Array.getElem_mem hi')
    | some gs => exact hb gs (Array.mem_of_getElem? (slp_some q).2.1)
theorem wpAny_lull {α : Type} {M : Model} {A : Around} {m : Sem α} {Q : α → Shared → Prop} {E : Value → Shared → Prop} {s : Shared} (x : Nat → Prop) (hx : ∀ i gs, x i → s.gens[i]? = some gs → PlainG gs) (h : wpAny M A m Q E (lull x s)) :
    wpAny M A m (fun a s' => ∃ t', Left x s t' s' ∧ Q a t') (fun e s' => ∃ t', Left x s t' s' ∧ E e t') s := by
  have h2 : wpAny M A m (fun a s' => s.gens.size ≤ s'.gens.size ∧ Q a s') (fun e s' => s.gens.size ≤ s'.gens.size ∧ E e s') (lull x s) :=
    wpAny_gsz (n := s.gens.size) (by simp [lull]) (wpAny_mono h (fun _ _ q z => ⟨z, q⟩) fun _ _ q z => ⟨z, q⟩)
  intro Γ p hΓ
  have := wp_pz M Γ m _ _ p (lull x s) (lull_pz hx) (h2 Γ p hΓ)
  rw [un_lull] at this
  refine Sem.wp_mono M Γ m (fun a p' s' q => ?_) (fun e p' s' q => ?_) p s this
  · obtain ⟨t', rfl, z, hz, q⟩ := q
    exact ⟨t', left_of z hz, q⟩
  · obtain ⟨t', rfl, z, hz, q⟩ := q
    exact ⟨t', left_of z hz, q⟩
end
theorem lull_heap {x : Nat → Prop} {s : Shared} : (lull x s).heap = s.heap := rfl
theorem lull_os {x : Nat → Prop} {s : Shared} : (lull x s).os = s.os := rfl
/-- the invariant looks at the heap alone -/
theorem Inv.gens {X : Cx} {pins : List (Addr × Obj)} {σ : L2.St} {H : Hp} {s s' : Shared} (I : Inv X pins σ H s) (h : s'.heap = s.heap) (o : s'.os = s.os) (b : AllBare s'.gens) : Inv X pins σ H s' :=
  ⟨I.ok, o.trans I.os, b, by rw [h]; exact I.base, by rw [h]; exact I.loc, by rw [h]; exact I.cell, I.free, I.freeC, by rw [h]; exact I.pin, by rw [h]; exact I.hok, I.len⟩
end Xk

set_option Elab.async false
set_option linter.all false
set_option maxRecDepth 100000
set_option maxHeartbeats 20000000
namespace Xk
open PySem PySem.Spec PyProof.Rows L2 GenW
/-! ### a stretch of a generator's run, up to the next item or its end -/
def Sg (M : Model) (A : Around) (F : End → Shared → Prop) (c : Code) (tr : Sem PySem.Fin) (fs : List Frame) (s : Shared) : Prop :=
  ∀ (Γ : PySem.Ctx) (p : Pos), Γ.code = c → Γ.Woken A → ∃ e s', Runs M Γ p tr fs s e s' ∧ F e s'
section
variable {M : Model} {A : Around} {F : End → Shared → Prop} {c : Code} {fs : List Frame} {s : Shared}
theorem sg_wrap {α : Type} {m : Sem α} {K : α → Sem PySem.Fin} {J : Value → Sem PySem.Fin} {gd : Bool → Bool} {lv : List Value → List Value}
    (h : wpAny M (A.over c fs) m (fun a s' => Sg M A F c (K a) fs s') (fun u s' => Sg M A F c (J u) fs s') s) : Sg M A F c (m.wrap K J gd lv) fs s := by
  intro Γ p hc hw
  subst hc
  exact runs_wrap_of_wp K J gd lv m (h (Γ.over fs) p (hw.over fs)) (fun a p' s' z => z Γ p' rfl hw) fun u p' s' z => z Γ p' rfl hw
theorem sg_at {q : Pos} {k : Unit → Sem PySem.Fin} (h : Sg M A F c (k ()) fs s) : Sg M A F c (.at q k) fs s :=
  sg_wrap (m := standAt q) (K := k) (J := .raise) (gd := id) (lv := id) (wpAny_standAt h)
theorem sg_point {l : List Value} {k : Unit → Sem PySem.Fin} (h : Sg M A F c (k ()) fs s) : Sg M A F c (.point l k) fs s :=
  sg_wrap (m := point) (K := k) (J := .raise) (gd := id) (lv := fun _ => l) (wpAny_point h)
theorem sg_call {d : Code} {u g l} {k : Result → Sem PySem.Fin} (h : ∀ p, Sg M A F d (M.den d) (.ret k u g l c p [] :: fs) s) : Sg M A F c (.call d u g l k) fs s := by
  intro Γ p hc hw
  subst hc
  obtain ⟨e, s', r, z⟩ := h p (Γ.goto d) p rfl (hw.goto d)
  exact ⟨e, s', runs_call_seg r, z⟩
theorem sg_leaf {k u g l d q kp} (r : Result) (h : Sg M A F d (k r) fs s) : Sg M A F c (leafOf r) (.ret k u g l d q kp :: fs) s := by
  intro Γ p hc hw
  subst hc
  obtain ⟨e, s', z1, z2⟩ := h (Γ.goto d) q rfl (hw.goto d)
  exact ⟨e, s', Runs.pop r z1, z2⟩
theorem sg_again {d : Code} (hq : d.quiet = true) (h : Sg M A F d (M.den d) fs s) : Sg M A F c (.pure (.again d)) fs s := by
  intro Γ p hc hw
  subst hc
  obtain ⟨e, s', z1, z2⟩ := h (Γ.goto d) p rfl (hw.goto d)
  exact ⟨e, s', Runs.head (c₁ := d) (fun _ _ y => .again hq y) z1, z2⟩
theorem sg_end (r : Result) (h : F (.ret r) s) : Sg M A F c (leafOf r) [] s := fun _ _ _ _ => ⟨.ret r, s, Runs.leaf r, h⟩
theorem sg_yield {v g l} {k : Resume → Sem PySem.Fin} (hfs : splitAtGen fs = none) (h : ∀ p, F (.susp v g l k c p fs) s) : Sg M A F c (.yield v g l k) fs s := by
  intro Γ p hc _
  subst hc
  exact ⟨_, s, Runs.yield' fs hfs, h p⟩
end
section
variable {M : Model} {A : Around} {F : End → Shared → Prop} {c : Code} {fs : List Frame} {s : Shared} {env : Env} {K : Flow → Sem PySem.Fin} {J : Value → Sem PySem.Fin} {gd : Bool → Bool} {lv : List Value → List Value}
theorem sg_cons {st : Stmt} {rest : List Stmt} (h : Sg M A F c ((exec st env).wrap (fun f => match f with | .next => (execs rest env).wrap K J gd lv | f => K f) J gd lv) fs s) : Sg M A F c ((execs (st :: rest) env).wrap K J gd lv) fs s := by
  rw [execs_cons_wrap]; exact h
theorem sg_yieldSt {e : Expr} {yp pos : Pos} (hfs : splitAtGen fs = none) (hco : env.scope.isCoroutine = false) (hi : interactive env = false)
    (h : wpAny M (A.over c fs) (eval e env) (fun v s' => ∀ (p : Pos) (l : List Value) (k : Resume → Sem PySem.Fin), (∀ (F' : End → Shared → Prop) (s2 : Shared), Sg M A F' c (K .next) fs s2 → Sg M A F' c (k (.send .none)) fs s2) → F (.susp v (gd false) l k c p fs) s')
      (fun u s' => Sg M A F c (J u) fs s') s) : Sg M A F c ((exec (.Expr (.Yield (some e) yp) pos) env).wrap K J gd lv) fs s := by
  rw [exec_Expr env _ pos hi rfl]
  show Sg M A F c (.at pos fun _ => ((eval e env >>= fun v => (standAt yp >>= fun _ => yieldOut env v)) >>= fun y => dropValue (.Yield (some e) yp) pos y).wrap K J gd lv) fs s
  have ey : ∀ v, yieldOut env v = yieldValue v := fun v => by simp only [yieldOut, hco, Bool.false_eq_true, if_false]
  simp only [ey]
  refine sg_at ?_
  rw [Sem.bind_eq_wrap', Sem.bind_eq_wrap', Sem.wrap_wrap, Sem.wrap_wrap]
  refine sg_wrap (wpAny_mono h (fun v s' z => ?_) fun _ _ y => y)
  exact sg_at (sg_yield hfs fun p => z p _ _ fun F' s2 y => y)
theorem sg_if {test : Expr} {b o : List Stmt} {pos : Pos} (h : wpAny M (A.over c fs) (isTrue test env (eval test env)) (fun t s' => if t = true then Sg M A F c ((execs b env).wrap K J gd lv) fs s' else Sg M A F c ((execs o env).wrap K J gd lv) fs s') (fun u s' => Sg M A F c (J u) fs s') s) :
    Sg M A F c ((exec (.If test b o pos) env).wrap K J gd lv) fs s := by
  rw [exec_If]
  show Sg M A F c (.at pos fun _ => (isTrue test env (eval test env) >>= fun t => if t = true then execs b env else execs o env).wrap K J gd lv) fs s
  refine sg_at ?_
  rw [Sem.bind_eq_wrap', Sem.wrap_wrap]
  refine sg_wrap (wpAny_mono h (fun t s' z => ?_) fun _ _ y => y)
  cases t with
  | true => exact z
  | false => exact z
theorem sg_While {test : Expr} {body : List Stmt} {pos : Pos} (h : ∀ p, Sg M A F (.whileLoop test body [] env) (M.den (.whileLoop test body [] env)) (.ret (fun r => ((match r with | .ok f => (.pure f : Sem Flow) | .error e => .raise e).onRaise (cameBack env)).wrap K J gd lv) none (gd false) (lv []) c p [] :: fs) s) :
    Sg M A F c ((exec (.While test body [] pos) env).wrap K J gd lv) fs s := sg_at (sg_call h)
theorem sg_For {target iter : Expr} {body : List Stmt} {pos : Pos} (hs : ∀ x, foldedSetIterable iter env x = pure x)
    (h : wpAny M (A.over c fs) (eval iter env) (fun x s1 => wpAny M (A.over c fs) (pyIter x) (fun it s2 => ∀ p, Sg M A F (.forLoop target it body [] env) (M.den (.forLoop target it body [] env))
      (.ret (fun r => ((match r with | .ok f => (.pure f : Sem Flow) | .error e => .raise e).onRaise (cameBack env)).wrap K J gd lv) none (gd false) (lv []) c p [] :: fs) s2) (fun u s' => Sg M A F c (J u) fs s') s1) (fun u s' => Sg M A F c (J u) fs s') s) :
    Sg M A F c ((exec (.For target iter body [] pos) env).wrap K J gd lv) fs s := by
  rw [exec_For]
  simp only [hs]
  rw [Sem.bind_eq_wrap', Sem.wrap_wrap]
  refine sg_wrap (wpAny_standAt ?_)
  rw [Sem.bind_eq_wrap', Sem.wrap_wrap]
  refine sg_wrap (wpAny_mono h (fun x s1 h1 => ?_) fun _ _ z => z)
  show Sg M A F c (Sem.wrap K J gd lv (standAt iter.pos >>= fun _ => holding [x] (pyIter x) >>= fun it => runOwn (.forLoop target it body [] env) env)) fs s1
  rw [Sem.bind_eq_wrap', Sem.wrap_wrap]
  refine sg_wrap (wpAny_standAt ?_)
  rw [Sem.bind_eq_wrap', Sem.wrap_wrap]
  exact sg_wrap (wpAny_holding (wpAny_mono h1 (fun it s2 h2 => sg_call h2) fun _ _ z => z))
end
section
variable {prog : Program} {w : World} {A : Around} {F : End → Shared → Prop} {fs : List Frame} {s : Shared} {env : Env}
theorem sg_whileTurn {test : Expr} {body : List Stmt}
    (h : wpAny (model prog w) (A.over (.whileLoop test body [] env) fs) (isTrue test env (eval test env)) (fun b s' => if b = true then
        Sg (model prog w) A F (.whileLoop test body [] env) ((execs body env).wrap (fun f => match f with
          | .next | .cont => .pure (.again (.whileLoop test body [] env))
          | .brk => .pure (.done .next)
          | .ret v => .pure (.done (.ret v))) (fun e => (do noteFrame e env; theTreesLotGoes e : Sem Unit).wrap (fun _ => .raise e) .raise id id) id id) fs s'
        else Sg (model prog w) A F (.whileLoop test body [] env) (.pure (.done .next)) fs s') (fun _ _ => False) s) :
    Sg (model prog w) A F (.whileLoop test body [] env) ((model prog w).den (.whileLoop test body [] env)) fs s := by
  show Sg _ A F _ ((whileTurn test body [] env).onRaise (fun x => do noteFrame x env; theTreesLotGoes x)) fs s
  unfold whileTurn
  rw [Sem.onRaise_eq_wrap, Sem.bind_eq_wrap', Sem.wrap_wrap]
  refine sg_wrap (wpAny_mono h (fun b s' hb => ?_) fun u s' z => z.elim)
  cases b with
  | true =>
    show Sg _ A F _ (Sem.wrap _ _ _ _ (if true = true then _ else _)) fs s'
    rw [if_pos rfl, Sem.bind_eq_wrap', Sem.wrap_wrap]
    rw [Sem.wrap_congr (execs body env) _ _ (K' := fun f => match f with
          | .next | .cont => .pure (.again (.whileLoop test body [] env))
          | .brk => .pure (.done .next)
          | .ret v => .pure (.done (.ret v))) (H' := (fun e => (do noteFrame e env; theTreesLotGoes e : Sem Unit).wrap (fun _ => .raise e) .raise id id))
      (fun f => by cases f <;> rfl)
      (fun e => by first | exact Sem.bind_eq_wrap _ _ | (show (do noteFrame e env; theTreesLotGoes e : Sem Unit).bind (fun _ => .raise e) = _; rw [Sem.bind_eq_wrap]))]
    exact hb
  | false => exact hb
theorem sg_func {body : List Stmt}
    (h : Sg (model prog w) A F (.func body env) ((execs body env).wrap (fun f => .pure (.done (.ret (match f with | .ret v => v | _ => .none)))) (fun e => (leaving env e).wrap (fun _ => .raise e) .raise id id) id id) fs s) :
    Sg (model prog w) A F (.func body env) ((model prog w).den (.func body env)) fs s := by
  show Sg _ A F _ (.point [] fun _ => ((execs body env).onRaise (leaving env)) >>= _) fs s
  refine sg_point ?_
  rw [Sem.onRaise_eq_wrap, Sem.bind_eq_wrap', Sem.wrap_wrap]
  have key := Sem.wrap_congr (execs body env) (K := fun f => Sem.wrap (fun (f : Flow) => (pure (.done (.ret (match f with | .ret v => v | _ => .none))) : Sem PySem.Fin)) .raise id id (.pure f)) (H := fun e => Sem.wrap (fun (f : Flow) => (pure (.done (.ret (match f with | .ret v => v | _ => .none))) : Sem PySem.Fin)) .raise id id ((leaving env e).bind fun _ => .raise e))
    (K' := fun f => .pure (.done (.ret (match f with | .ret v => v | _ => .none)))) (H' := fun e => (leaving env e).wrap (fun _ => .raise e) .raise id id) id id (fun f => by cases f <;> rfl) (fun e => by rw [Sem.bind_eq_wrap, Sem.wrap_wrap]; rfl)
  first
    | (rw [key]; exact h)
    | (refine Eq.mpr (congrArg (fun t => Sg _ A F _ t fs s) ?_) h
       refine Sem.wrap_congr (execs body env) _ _ (fun f => ?_) (fun e => ?_)
       · cases f <;> rfl
       · first | rfl | (rw [Sem.bind_eq_wrap, Sem.wrap_wrap]; rfl))
theorem sg_forTurn {target : Expr} {it : Value} {body : List Stmt}
    (h : wpAny (model prog w) (A.over (.forLoop target it body [] env) fs) (pyNext it) (fun r s' => match r with
      | none => Sg (model prog w) A F (.forLoop target it body [] env) (.pure (.again (.block [] env))) fs s'
      | some v => wpAny (model prog w) (A.over (.forLoop target it body [] env) fs) (letOwnedTupleGo target it v) (fun _ s1 =>
          wpAny (model prog w) (A.over (.forLoop target it body [] env) fs) (assign target env v) (fun _ s2 =>
            Sg (model prog w) A F (.forLoop target it body [] env) ((execs body env).wrap (fun f => match f with
              | .next | .cont => .pure (.again (.forLoop target it body [] env))
              | .brk => .pure (.done .next)
              | .ret v => .pure (.done (.ret v))) (fun e => (do noteFrame e env; theTreesLotGoes e : Sem Unit).wrap (fun _ => .raise e) .raise id id) id id) fs s2) (fun _ _ => False) s1) (fun _ _ => False) s') (fun _ _ => False) s) :
    Sg (model prog w) A F (.forLoop target it body [] env) ((model prog w).den (.forLoop target it body [] env)) fs s := by
  show Sg _ A F _ ((forTurn target it body [] env).onRaise (fun x => do noteFrame x env; theTreesLotGoes x)) fs s
  unfold forTurn
  rw [Sem.onRaise_eq_wrap, Sem.bind_eq_wrap', Sem.wrap_wrap]
  refine sg_wrap (wpAny_standAt ?_)
  rw [Sem.bind_eq_wrap', Sem.wrap_wrap]
  refine sg_wrap (wpAny_onRaise (wpAny_mono h (fun r s' hr => ?_) fun _ _ z => z.elim))
  cases r with
  | none => exact hr
  | some v =>
    show Sg _ A F _ (Sem.wrap _ _ _ _ (letOwnedTupleGo target it v >>= _)) fs s'
    rw [Sem.bind_eq_wrap', Sem.wrap_wrap]
    refine sg_wrap (wpAny_mono hr (fun _ s1 h1 => ?_) fun _ _ z => z.elim)
    rw [Sem.bind_eq_wrap', Sem.wrap_wrap]
    refine sg_wrap (wpAny_mono h1 (fun _ s2 h2 => ?_) fun _ _ z => z.elim)
    rw [Sem.bind_eq_wrap', Sem.wrap_wrap]
    rw [Sem.wrap_congr (execs body env) _ _ (K' := fun f => match f with
          | .next | .cont => .pure (.again (.forLoop target it body [] env))
          | .brk => .pure (.done .next)
          | .ret v => .pure (.done (.ret v))) (H' := (fun e => (do noteFrame e env; theTreesLotGoes e : Sem Unit).wrap (fun _ => .raise e) .raise id id))
      (fun f => by cases f <;> rfl)
      (fun e => by first | exact Sem.bind_eq_wrap _ _ | (show (do noteFrame e env; theTreesLotGoes e : Sem Unit).bind (fun _ => .raise e) = _; rw [Sem.bind_eq_wrap]))]
    exact h2
theorem sg_block0 {c : Code} {p : Pos} {l kp : List Value} {k : Result → Sem PySem.Fin} {g : Bool} (h : Sg (model prog w) A F c (k (.ok .next)) fs s) :
    Sg (model prog w) A F (.block [] env) ((model prog w).den (.block [] env)) (.ret k none g l c p kp :: fs) s := by
  show Sg _ A F _ (leafOf (.ok .next)) _ s
  exact sg_leaf (.ok .next) h
end
end Xk

set_option Elab.async false
set_option linter.all false
set_option maxRecDepth 100000
set_option maxHeartbeats 20000000
namespace Xk
open PySem PySem.Spec PyProof.Rows L2 GenW
/-! ### a generator's body whose consumer may do what it likes between the items -/
/-- where the present stretch began -/
structure Bs where
  s : Shared
  H : Hp
  pn : List (Addr × Obj)
  /-- the whole of it, and what is the generator's own -/
  full : Shared
  fH : Hp
  pv : List (Addr × Obj)
  m : Nat
abbrev rb (X : Cx) (b : Bs) : Cx := { X with s_0 := b.s, H_0 := b.H, pn := b.pn }
structure Vb (X : Cx) (b : Bs) : Prop where
  sz : b.s.heap.objs.size = X.env.locals
  low : ∀ a, a < X.env.locals → b.s.heap.get? a = b.full.heap.get? a
  lowH : ∀ a, a < X.env.locals → b.H a = b.fH a
  pns : ∀ a o, X.env.locals ≤ a → b.full.heap.get? a = some o → b.fH a = none → (∀ p ∈ b.pv, p.1 ≠ a) → (∀ v, o.data ≠ .cell v) → (a, o) ∈ b.pn
  loc : ∃ o, (X.env.locals, o) ∈ b.pv
  os : b.s.os = b.full.os
structure Ri (X : Cx) (b : Bs) (ip : List (Addr × Obj)) (σ : L2.St) (H : Hp) (s : Shared) : Prop where
  inv : Inv (rb X b) ip σ H s
  off : ∀ p ∈ b.pn, ∀ q ∈ ip, p.1 ≠ q.1
  hi : ∀ q ∈ ip, X.env.locals ≤ q.1
  vb : Vb X b
structure VEnds (U : Type) where
  nx : U → L2.St → Hp → Prop
  rt : U → VK
  bk : U → L2.St → Hp → Prop := fun _ _ _ => False
  ct : U → L2.St → Hp → Prop := fun _ _ _ => False
  yl : U → V → Hp → (U → Hp → Prop) → Prop
abbrev TV (U : Type) := VEnds U → U → L2.St → Hp → Prop
section
variable {U : Type}
def VEnds.at (D : VEnds U) (u : U) : Ends := { nx := D.nx u, rt := D.rt u, bk := D.bk u, ct := D.ct u }
def VSP (X : Cx) (ip : List (Addr × Obj)) (D : VEnds U) (b : Bs) (u : U) (f : Flow) (s : Shared) : Prop :=
  match f with
  | .next => ∃ σ H, Ri X b ip σ H s ∧ D.nx u σ H
  | .brk => ∃ σ H, Ri X b ip σ H s ∧ D.bk u σ H
  | .cont => ∃ σ H, Ri X b ip σ H s ∧ D.ct u σ H
  | .ret r => ∃ v σ H, Ri X b ip σ H s ∧ RelV v r ∧ D.rt u v H
structure VC (X : Cx) (A : Around) (c : Code) (fs : List Frame) (gd : Bool → Bool) : Prop where
  over : A.over c fs = X.A
  split : splitAtGen fs = none
  guard : fs.any Frame.guarded = false
  gd : gd false = false
abbrev Fam (U : Type) := Bs → U → End → Shared → Prop
def VOk (X : Cx) (ip : List (Addr × Obj)) (A : Around) (F : Fam U) (c : Code) (fs : List Frame) (K : Flow → Sem PySem.Fin) (D : VEnds U) : Prop :=
  ∀ b u s f, VSP X ip D b u f s → Sg (model X.prog X.w) A (F b u) c (K f) fs s
def VYl (X : Cx) (A : Around) (F : Fam U) (yl : U → V → Hp → (U → Hp → Prop) → Prop) : Prop :=
  ∀ (b : Bs) (u : U) (x : V) (v : Value) (ip : List (Addr × Obj)) (σ : L2.St) (H : Hp) (s : Shared) (l : List Value) (k : Resume → Sem PySem.Fin) (c : Code) (p : Pos) (fs : List Frame) (N : U → Hp → Prop),
    RelV x v → Ri X b ip σ H s → yl u x H N → splitAtGen fs = none → fs.any Frame.guarded = false →
    (∀ b' u' s' H', Ri X b' ip σ H' s' → N u' H' → Sg (model X.prog X.w) A (F b' u') c (k (.send .none)) fs s') → F b u (.susp v false l k c p fs) s
structure GV (U : Type) (X : Cx) (st : Stmt) (t : TV U) : Prop where
  run : ∀ (A : Around) (F : Fam U) (ip : List (Addr × Obj)) (b : Bs) (u : U) (c : Code) (fs : List Frame) (K : Flow → Sem PySem.Fin) (J : Value → Sem PySem.Fin) (gd : Bool → Bool) (lv : List Value → List Value) (s : Shared) (σ : L2.St) (H : Hp) (D : VEnds U),
    VC X A c fs gd → VYl X A F D.yl → VOk X ip A F c fs K D → Ri X b ip σ H s → t D u σ H → Sg (model X.prog X.w) A (F b u) c ((exec st X.env).wrap K J gd lv) fs s
structure GVs (U : Type) (X : Cx) (st : List Stmt) (t : TV U) : Prop where
  run : ∀ (A : Around) (F : Fam U) (ip : List (Addr × Obj)) (b : Bs) (u : U) (c : Code) (fs : List Frame) (K : Flow → Sem PySem.Fin) (J : Value → Sem PySem.Fin) (gd : Bool → Bool) (lv : List Value → List Value) (s : Shared) (σ : L2.St) (H : Hp) (D : VEnds U),
    VC X A c fs gd → VYl X A F D.yl → VOk X ip A F c fs K D → Ri X b ip σ H s → t D u σ H → Sg (model X.prog X.w) A (F b u) c ((execs st X.env).wrap K J gd lv) fs s
def tPlainV (t : TS) : TV U := fun D u σ H => t (D.at u) σ H
variable {X : Cx} {st : Stmt} {rest : List Stmt}
theorem vsp_of {ip : List (Addr × Obj)} {D : VEnds U} {b : Bs} {u : U} {f : Flow} {s : Shared} (ho : ∀ p ∈ b.pn, ∀ q ∈ ip, p.1 ≠ q.1) (hh : ∀ q ∈ ip, X.env.locals ≤ q.1) (hz : Vb X b) (h : SP (rb X b) ip (D.at u) f s) : VSP X ip D b u f s := by
  cases f with
  | next => obtain ⟨σ, H, I, q⟩ := h; exact ⟨σ, H, ⟨I, ho, hh, hz⟩, q⟩
  | brk => obtain ⟨σ, H, I, q⟩ := h; exact ⟨σ, H, ⟨I, ho, hh, hz⟩, q⟩
  | cont => obtain ⟨σ, H, I, q⟩ := h; exact ⟨σ, H, ⟨I, ho, hh, hz⟩, q⟩
  | ret r => obtain ⟨v, σ, H, I, r1, q⟩ := h; exact ⟨v, σ, H, ⟨I, ho, hh, hz⟩, r1, q⟩
theorem gv_ps {t : TS} (hno : ∀ e s', X.xe e s' → False) (h : ∀ b, PS (rb X b) st t) : GV U X st (tPlainV t) := by
  refine ⟨fun A F ip b u c fs K J gd lv s σ H D g hy k I ht => ?_⟩
  refine sg_wrap ?_
  rw [g.over]
  exact wpAny_mono ((h b).run ip s σ H (D.at u) I.inv ht) (fun f s' hs => k b u s' f (vsp_of I.off I.hi I.vb hs)) fun e s' z => (hno e s' z).elim
theorem gvs_pss {t : TS} (hno : ∀ e s', X.xe e s' → False) (h : ∀ b, PSs (rb X b) rest t) : GVs U X rest (tPlainV t) := by
  refine ⟨fun A F ip b u c fs K J gd lv s σ H D g hy k I ht => ?_⟩
  refine sg_wrap ?_
  rw [g.over]
  exact wpAny_mono ((h b).run ip s σ H (D.at u) I.inv ht) (fun f s' hs => k b u s' f (vsp_of I.off I.hi I.vb hs)) fun e s' z => (hno e s' z).elim
def tV0 : TV U := fun D u σ H => D.nx u σ H
theorem gvs_nil : GVs U X [] tV0 := ⟨fun A F ip b u c fs K J gd lv s σ H D g hy k I ht => k b u s .next ⟨σ, H, I, ht⟩⟩
def tVThen (t v : TV U) : TV U := fun D u σ H => t { D with nx := fun u' σ' H' => v D u' σ' H' } u σ H
theorem gvs_cons {t v : TV U} (h1 : GV U X st t) (h2 : GVs U X rest v) : GVs U X (st :: rest) (tVThen t v) := by
  refine ⟨fun A F ip b u c fs K J gd lv s σ H D g hy k I ht => sg_cons ?_⟩
  refine h1.run A F ip b u c fs _ J gd lv s σ H { D with nx := fun u' σ' H' => v D u' σ' H' } g hy (fun b' u' s' f hs => ?_) I ht
  cases f with
  | next =>
    obtain ⟨σ', H', I', q⟩ := hs
    exact h2.run A F ip b' u' c fs K J gd lv s' σ' H' D g hy k I' q
  | brk => exact k b' u' s' .brk hs
  | cont => exact k b' u' s' .cont hs
  | ret r => exact k b' u' s' (.ret r) hs
def tVYield (te : TE) : TV U := fun D u σ H => te σ H fun x H1 => D.yl u x H1 fun u' H2 => D.nx u' σ H2
theorem gv_yield {e : Expr} {yp pos : Pos} {te : TE} (hno : ∀ e s', X.xe e s' → False) (he : ∀ b, PE (rb X b) e te) (hco : X.env.scope.isCoroutine = false := by rfl) (hi : interactive X.env = false := by rfl) : GV U X (.Expr (.Yield (some e) yp) pos) (tVYield te) := by
  refine ⟨fun A F ip b u c fs K J gd lv s σ H D g hy k I ht => ?_⟩
  refine sg_yieldSt g.split hco hi ?_
  rw [g.over]
  refine wpAny_mono ((he b).run ip s σ H _ I.inv ht) (fun v s' hv p l kk hk => ?_) fun e s' z => (hno e s' z).elim
  obtain ⟨x, H1, I1, rv, q⟩ := hv
  rw [g.gd]
  exact hy b u x v ip σ H1 s' l kk c p fs _ rv ⟨I1, I.off, I.hi, I.vb⟩ q g.split g.guard fun b' u' s2 H2 I2 n2 => hk _ _ (k b' u' s2 .next ⟨σ, H2, I2, n2⟩)
def tVIf (tc : TT) (t v : TV U) : TV U := fun D u σ H => tc σ H fun d H1 => if d = true then t D u σ H1 else v D u σ H1
theorem gv_if {test : Expr} {b1 b2 : List Stmt} {pos : Pos} {tc : TT} {t v : TV U} (hno : ∀ e s', X.xe e s' → False) (hc : ∀ b, PT (rb X b) test tc) (h1 : GVs U X b1 t) (h2 : GVs U X b2 v) : GV U X (.If test b1 b2 pos) (tVIf tc t v) := by
  refine ⟨fun A F ip b u c fs K J gd lv s σ H D g hy k I ht => sg_if ?_⟩
  rw [g.over]
  refine wpAny_mono ((hc b).run ip s σ H _ I.inv ht) (fun d s' hs => ?_) fun e s' z => (hno e s' z).elim
  obtain ⟨H1, I1, q⟩ := hs
  cases d with
  | true => rw [if_pos rfl] at q ⊢; exact h1.run A F ip b u c fs K J gd lv s' σ H1 D g hy k ⟨I1, I.off, I.hi, I.vb⟩ q
  | false => rw [if_neg Bool.false_ne_true] at q ⊢; exact h2.run A F ip b u c fs K J gd lv s' σ H1 D g hy k ⟨I1, I.off, I.hi, I.vb⟩ q
theorem vc_loop {A : Around} {c c' : Code} {fs : List Frame} {gd : Bool → Bool} {k : Result → Sem PySem.Fin} {l kp : List Value} {p : Pos} (g : VC X A c fs gd) (hw : c'.weight = 0) (hu : c'.cUnits = 0) : VC X A c' (.ret k none (gd false) l c p kp :: fs) id where
  over := (over_loop hw hu).trans g.over
  split := by
    show (splitAtGen fs).map _ = none
    rw [g.split]; rfl
  guard := by
    show (gd false || fs.any Frame.guarded) = false
    rw [g.gd, g.guard]; rfl
  gd := rfl
def tVWhile (tc : TT) (tb : TV U) : TV U := fun D u σ H => ∃ W : Nat → U → L2.St → Hp → Prop, (∃ m, W m u σ H) ∧ ∀ m u σ H, W m u σ H →
  tc σ H fun d H1 => if d = true then ∃ N : U → L2.St → Hp → Prop, (∀ u' σ' H', N u' σ' H' → ∃ m', m' < m ∧ W m' u' σ' H') ∧ tb { D with nx := N, ct := N, bk := D.nx } u σ H1 else D.nx u σ H1
theorem gv_while {test : Expr} {body : List Stmt} {pos : Pos} {tc : TT} {tb : TV U} (hno : ∀ e s', X.xe e s' → False) (hc : ∀ b, PT (rb X b) test tc) (hb : GVs U X body tb) : GV U X (.While test body [] pos) (tVWhile tc tb) := by
  refine ⟨fun A F ip b u c fs K J gd lv s σ H D g hy k I ht => ?_⟩
  obtain ⟨W, ⟨m0, w0⟩, turn⟩ := ht
  refine sg_While fun p => ?_
  have gl := fun (kk : Result → Sem PySem.Fin) => vc_loop (k := kk) (c' := .whileLoop test body [] X.env) (l := lv []) (kp := []) (p := p) g rfl rfl
  have loop : ∀ (m : Nat) (b : Bs) (u : U) (s : Shared) (σ : L2.St) (H : Hp), W m u σ H → Ri X b ip σ H s →
      Sg (model X.prog X.w) A (F b u) (.whileLoop test body [] X.env) ((model X.prog X.w).den (.whileLoop test body [] X.env))
        (.ret (fun r => ((match r with | .ok f => (.pure f : Sem Flow) | .error e => .raise e).onRaise (cameBack X.env)).wrap K J gd lv) none (gd false) (lv []) c p [] :: fs) s := by
    intro m
    induction m using Nat.strongRecOn with
    | ind m ih =>
      intro b u s σ H w I
      refine sg_whileTurn ?_
      rw [(gl _).over]
      refine wpAny_mono ((hc b).run ip s σ H _ I.inv (turn m u σ H w)) (fun d s' hd => ?_) fun e s' z => (hno e s' z).elim
      obtain ⟨H2, I2, q2⟩ := hd
      have I2' : Ri X b ip σ H2 s' := ⟨I2, I.off, I.hi, I.vb⟩
      cases d with
      | true =>
        rw [if_pos rfl] at q2 ⊢
        obtain ⟨N, hN, q2⟩ := q2
        refine hb.run A F ip b u _ _ _ _ id id s' σ H2 { D with nx := N, ct := N, bk := D.nx } (gl _) hy (fun b3 u3 s3 f hs => ?_) I2' q2
        cases f with
        | next =>
          obtain ⟨σ3, H3, I3, n3⟩ := hs
          obtain ⟨m', hm, w3⟩ := hN u3 σ3 H3 n3
          exact sg_again rfl (ih m' hm b3 u3 s3 σ3 H3 w3 I3)
        | cont =>
          obtain ⟨σ3, H3, I3, n3⟩ := hs
          obtain ⟨m', hm, w3⟩ := hN u3 σ3 H3 n3
          exact sg_again rfl (ih m' hm b3 u3 s3 σ3 H3 w3 I3)
        | brk => exact sg_leaf (.ok .next) (k b3 u3 s3 .next hs)
        | ret v => exact sg_leaf (.ok (.ret v)) (k b3 u3 s3 (.ret v) hs)
      | false =>
        rw [if_neg Bool.false_ne_true] at q2 ⊢
        exact sg_leaf (.ok .next) (k b u s' .next ⟨σ, H2, I2', q2⟩)
  exact loop m0 b u s σ H w0 I
def tVFor (wi : TI) (g : TG) (tb : TV U) : TV U := fun D u σ H => wi σ H fun J H1 => ∃ W : Nat → Nat → U → L2.St → Hp → Prop, (∃ m, W 0 m u σ H1) ∧ ∀ i m u σ H, W i m u σ H →
  (J.stop i H ∧ D.nx u σ H) ∨ (J.go i H ∧ ∃ N : U → L2.St → Hp → Prop, (∀ u' σ' H', N u' σ' H' → ∃ m', m' < m ∧ W (i + 1) m' u' σ' H') ∧ ∀ x H', J.yld i H x H' → g x σ H' fun σ2 H2 => tb { D with nx := N, ct := N, bk := D.nx } u σ2 H2)
theorem gv_for {tg iter : Expr} {body : List Stmt} {wi : TI} {g : TG} {tb : TV U} {pos : Pos} (hno : ∀ e s', X.xe e s' → False) (hc : X.calm = true) (hex : X.ex = []) (hi : ∀ b, PI (rb X b) tg iter wi) (hg : ∀ b, PG (rb X b) tg g) (hb : GVs U X body tb)
    (hs : ∀ x, foldedSetIterable iter X.env x = pure x := by intro _; rfl) : GV U X (.For tg iter body [] pos) (tVFor wi g tb) := by
  refine ⟨fun A F ip b0 u c fs K J gd lv s σ H D gc hy k I ht => ?_⟩
  refine sg_For hs ?_
  rw [gc.over]
  refine wpAny_mono ((hi b0).run _ s σ H _ I.inv ht) (fun v s1 h1 => wpAny_mono h1 (fun itv s2 h2 => ?_) fun x s' hx => (hno x s' hx).elim) fun x s' hx => (hno x s' hx).elim
  obtain ⟨it, fp, tn, J', H2, e, I2, T, st2, f2, W, ⟨m0, w0⟩, turn⟩ := h2
  subst e
  intro p
  have gl := fun (kk : Result → Sem PySem.Fin) => vc_loop (k := kk) (c' := .forLoop tg (.ref it) body [] X.env) (l := lv []) (kp := []) (p := p) gc rfl rfl
  -- the iterator's own objects, at any base
  have fpl : ∀ a ∈ fp, X.env.locals ≤ a := fun a ha => by
    obtain ⟨_, _, _, f5, _, _⟩ := f2 a ha
    rcases f5 with f5 | f5
    · exact absurd (show a ∈ X.ex from f5) (by rw [hex]; exact List.not_mem_nil)
    · rw [← I.vb.sz]; exact f5
  have stat : ∀ {b : Bs} {H' : Hp}, b.s.heap.objs.size = X.env.locals → (∀ a ∈ fp, H' a = none) → (∀ q ∈ b.pn, ∀ a ∈ fp, q.1 ≠ a) → ∀ a ∈ fp, FpOk (rb X b) ip H' a := fun {b H'} hz hn ho a ha => by
    obtain ⟨_, f3, f4, f5, f6, f7⟩ := f2 a ha
    refine ⟨hn a ha, f3, f4, ?_, f6, fun q hq => ?_⟩
    · exact .inr (by show b.s.heap.objs.size ≤ a; rw [hz]; exact fpl a ha)
    · rcases List.mem_append.mp hq with z | z
      · exact ho q z a ha
      · exact f7 q (List.mem_append_right _ z)
  have loop : ∀ (m i : Nat) (b : Bs) (u : U) (s : Shared) (σ : L2.St) (H : Hp), W i m u σ H → Ri X b ip σ H s → tn i s.heap → (∀ a ∈ fp, H a = none) → (∀ q ∈ b.pn, ∀ a ∈ fp, q.1 ≠ a) →
      Sg (model X.prog X.w) A (F b u) (.forLoop tg (.ref it) body [] X.env) ((model X.prog X.w).den (.forLoop tg (.ref it) body [] X.env))
        (.ret (fun r => ((match r with | .ok f => (.pure f : Sem Flow) | .error e => .raise e).onRaise (cameBack X.env)).wrap K J gd lv) none (gd false) (lv []) c p [] :: fs) s := by
    intro m
    induction m using Nat.strongRecOn with
    | ind m ih =>
      intro i b u s3 σ3 H3 w I st3 fr3 of3
      refine sg_forTurn ?_
      rw [(gl _).over]
      rcases turn i m u σ3 H3 w with ⟨stop, qn⟩ | ⟨go, N, hN, step⟩
      · refine wpAny_mono (T.done (rb X b) rfl rfl rfl hc i _ s3 σ3 H3 (fun _ _ => False) I.inv (stat I.vb.sz fr3 of3) st3 stop) (fun r' s4 hr4 => ?_) fun _ _ z => z
        obtain ⟨hr, I4⟩ := hr4
        subst hr
        exact sg_again rfl (sg_block0 (k b u s4 .next ⟨σ3, H3, ⟨I4, I.off, I.hi, I.vb⟩, qn⟩))
      · refine wpAny_mono (T.item (rb X b) rfl rfl rfl hc i _ s3 σ3 H3 (fun _ _ => False) I.inv (stat I.vb.sz fr3 of3) st3 go) (fun r' s4 hr4 => ?_) fun _ _ z => z
        obtain ⟨v, hr, h4⟩ := hr4
        subst hr
        refine wpAny_mono h4 (fun _ s5 h5 => ?_) fun _ _ z => z
        obtain ⟨x, H5, I5, r5, y5, st5, fr5⟩ := h5
        have I5' := I5.pinned (stat I.vb.sz fr5 of3) (T.obj _ _ st5)
        refine wpAny_mono ((hg b).run _ s5 σ3 H5 x v _ I5' r5 (step x H5 y5)) (fun _ s6 h6 => ?_) fun x s' hx => hno x s' hx
        obtain ⟨σ6, H6, I6, q6⟩ := h6
        have I6' : Ri X b (ip ++ pinsAt fp s5.heap) σ6 H6 s6 := ⟨I6, fun q1 h1 q2 h2 => by
          rcases List.mem_append.mp h2 with z | z
          · exact I.off q1 h1 q2 z
          · exact of3 q1 h1 q2.1 (of_pinsAt z).1, fun q hq => (List.mem_append.mp hq).elim (I.hi q) fun z => fpl q.1 (of_pinsAt z).1, I.vb⟩
        have back : ∀ {b7 : Bs} {σ7 : L2.St} {H7 : Hp} {s7 : Shared}, Ri X b7 (ip ++ pinsAt fp s5.heap) σ7 H7 s7 → Ri X b7 ip σ7 H7 s7 ∧ tn (i + 1) s7.heap ∧ (∀ a ∈ fp, H7 a = none) ∧ ∀ q ∈ b7.pn, ∀ a ∈ fp, q.1 ≠ a := fun {b7 σ7 H7 s7} I7 => by
          refine ⟨⟨I7.inv.pins_of fun q hq => I7.inv.pin q ?_, fun q1 h1 q2 h2 => I7.off q1 h1 q2 (List.mem_append_left _ h2), fun q hq => I7.hi q (List.mem_append_left _ hq), I7.vb⟩, T.keep _ _ _ st5 fun a ha o e => (I7.inv.pin (a, o) (List.mem_append_right _ (List.mem_append_right _ (mem_pinsAt ha e)))).1, fun a ha => ?_, fun q hq a ha => ?_⟩
          · exact List.mem_append_right _ (List.mem_append_left _ hq)
          · obtain ⟨o, e, _⟩ := T.obj _ _ st5 a ha
            exact (I7.inv.pin (a, o) (List.mem_append_right _ (List.mem_append_right _ (mem_pinsAt ha e)))).2.1
          · obtain ⟨o, e, _⟩ := T.obj _ _ st5 a ha
            exact I7.off q hq (a, o) (List.mem_append_right _ (mem_pinsAt ha e))
        refine hb.run A F (ip ++ pinsAt fp s5.heap) b u _ _ _ _ id id s6 σ6 H6 { D with nx := N, ct := N, bk := D.nx } (gl _) hy (fun b7 u7 s7 f hs => ?_) I6' q6
        cases f with
        | next =>
          obtain ⟨σ7, H7, I7, n7⟩ := hs
          obtain ⟨m', hm, w7⟩ := hN u7 σ7 H7 n7
          obtain ⟨b1, b2, b3, b4⟩ := back I7
          exact sg_again rfl (ih m' hm (i + 1) b7 u7 s7 σ7 H7 w7 b1 b2 b3 b4)
        | cont =>
          obtain ⟨σ7, H7, I7, n7⟩ := hs
          obtain ⟨m', hm, w7⟩ := hN u7 σ7 H7 n7
          obtain ⟨b1, b2, b3, b4⟩ := back I7
          exact sg_again rfl (ih m' hm (i + 1) b7 u7 s7 σ7 H7 w7 b1 b2 b3 b4)
        | brk =>
          obtain ⟨σ7, H7, I7, q7⟩ := hs
          exact sg_leaf (.ok .next) (k b7 u7 s7 .next ⟨σ7, H7, (back I7).1, q7⟩)
        | ret v =>
          obtain ⟨x7, σ7, H7, I7, r7, q7⟩ := hs
          exact sg_leaf (.ok (.ret v)) (k b7 u7 s7 (.ret v) ⟨x7, σ7, H7, (back I7).1, r7, q7⟩)
  refine loop m0 0 b0 u s2 σ H2 w0 ⟨I2, I.off, I.hi, I.vb⟩ st2 (fun a ha => (f2 a ha).1) fun q hq a ha => ?_
  exact (f2 a ha).2.2.2.2.2 q (List.mem_append_left _ hq)
end
end Xk

set_option Elab.async false
set_option linter.all false
set_option maxRecDepth 100000
set_option maxHeartbeats 20000000
namespace Xk
open PySem PySem.Spec PyProof.Rows L2 GenW
/-! ### what a generator does, item by item -/
/-- tuples stand; what is known stays known -/
structure Tame (H H' : Hp) : Prop where
  tups : ∀ b xs, H b = some (.tup xs) → H' b = some (.tup xs)
  frzs : ∀ b o u, H b = some (.frz o u) → H' b = some (.frz o u)
  tbls : ∀ b ps, H b = some (.tbl ps) → ∃ more, H' b = some (.tbl (ps ++ more))
  kept : ∀ b, H b ≠ none → H' b ≠ none
theorem Tame.of_same {H H' : Hp} (s : Same H H') : Tame H H' := ⟨fun b xs q => s _ _ q, fun b o u q => s _ _ q, fun b ps q => ⟨#[], by rw [s _ _ q]; simp⟩, fun b q => by
  cases e : H b with
  | none => exact absurd e q
  | some u => rw [s _ _ e]; exact fun z => by cases z⟩
theorem Tame.of_sx {H H' : Hp} {r : Addr} {xs ys : List V} (s : ∀ b u, H b = some u → b ≠ r → H' b = some u) (h : H r = some (.lst xs)) (h' : H' r = some (.lst ys)) : Tame H H' := by
  refine ⟨fun b xs q => ?_, fun b o u q => ?_, fun b ps q => ?_, fun b q => ?_⟩
  · by_cases e : b = r
    · rw [e, h] at q; cases q
    · exact s _ _ q e
  · by_cases e : b = r
    · rw [e, h] at q; cases q
    · exact s _ _ q e
  · by_cases e : b = r
    · rw [e, h] at q; cases q
    · exact ⟨#[], by rw [s _ _ q e]; simp⟩
  · by_cases e : b = r
    · rw [e, h']; exact fun z => by cases z
    · cases y : H b with
      | none => exact absurd y q
      | some u => rw [s _ _ y e]; exact fun z => by cases z
structure Mach where
  S : Type
  n : Nat
  St : Nat → S → Hp → Prop
  Y : Nat → S → Hp → V → S → Hp → Prop
  tame : ∀ i q H x q' H', Y i q H x q' H' → Tame H H'
/-- how a body is to run -/
@[reducible] def Mach.ends (M : Mach) : VEnds (Nat × M.S × Hp) where
  nx := fun u _ H => u.1 = M.n ∧ Same u.2.2 H
  rt := fun u v H => v = .non ∧ u.1 = M.n ∧ Same u.2.2 H
  yl := fun u x H1 N => ∃ q', u.1 < M.n ∧ M.Y u.1 u.2.1 u.2.2 x q' H1 ∧ ∀ H2, M.St (u.1 + 1) q' H2 → N (u.1 + 1, q', H2) H2
/-! ### a later stretch -/
section
open Classical
def cut (s : Shared) (n : Nat) : Shared := { s with heap := { s.heap with objs := s.heap.objs.extract 0 n } }
noncomputable def cutH (H : Hp) (n : Nat) : Hp := fun a => if a < n then H a else none
theorem cut_size {s : Shared} {n : Nat} (h : n ≤ s.heap.objs.size) : (cut s n).heap.objs.size = n := by
  show (s.heap.objs.extract 0 n).size = n
  simp; omega
theorem cut_get {s : Shared} {n a : Nat} (h : a < n) : (cut s n).heap.get? a = s.heap.get? a := by
  unfold cut Heap.get?
  have : (s.heap.objs.extract 0 n)[a]? = s.heap.objs[a]? := by
    rw [Array.getElem?_extract]
    split <;> simp_all
    omega
  simp only [this]
theorem cut_some {s : Shared} {n a : Nat} {o : Obj} (hn : n ≤ s.heap.objs.size) (h : (cut s n).heap.get? a = some o) : a < n ∧ s.heap.get? a = some o := by
  have hl : a < n := by have := Heap.lt_size h; rw [cut_size hn] at this; exact this
  exact ⟨hl, by rw [← cut_get hl]; exact h⟩
/-- all that stands from n on and is nobody's known, but what is the generator's own -/
noncomputable def pinsOf (s : Shared) (H : Hp) (n : Nat) (pv : List (Addr × Obj)) : List (Addr × Obj) :=
  (List.range s.heap.objs.size).filterMap fun a => if n ≤ a ∧ H a = none ∧ (∀ p ∈ pv, p.1 ≠ a) then (match s.heap.get? a with
    | some o => if (∀ v, o.data ≠ .cell v) then some (a, o) else none
    | none => none) else none
theorem mem_pinsOf {s : Shared} {H : Hp} {n : Nat} {pv : List (Addr × Obj)} {p : Addr × Obj} : p ∈ pinsOf s H n pv ↔ n ≤ p.1 ∧ H p.1 = none ∧ (∀ q ∈ pv, q.1 ≠ p.1) ∧ s.heap.get? p.1 = some p.2 ∧ ∀ v, p.2.data ≠ .cell v := by
  unfold pinsOf
  rw [List.mem_filterMap]
  constructor
  · rintro ⟨a, _, h⟩
    by_cases c : n ≤ a ∧ H a = none ∧ (∀ p ∈ pv, p.1 ≠ a)
    · rw [if_pos c] at h
      cases e : s.heap.get? a with
      | none => rw [e] at h; cases h
      | some o =>
        rw [e] at h
        by_cases d : ∀ v, o.data ≠ .cell v
        · simp only [if_pos d] at h; cases h; exact ⟨c.1, c.2.1, c.2.2, e, d⟩
        · simp only [if_neg d] at h; cases h
    · rw [if_neg c] at h; cases h
  · rintro ⟨h1, h2, h3, h4, h5⟩
    refine ⟨p.1, List.mem_range.mpr (Heap.lt_size h4), ?_⟩
    rw [if_pos ⟨h1, h2, h3⟩, h4]
    simp only [if_pos h5]
noncomputable def cellsFr (s : Shared) (n : Nat) : List Addr := (List.range s.heap.objs.size).filter fun a => decide (n ≤ a ∧ ∃ o v, s.heap.get? a = some o ∧ o.data = .cell v)
theorem mem_cellsFr {s : Shared} {n : Nat} {a : Addr} : a ∈ cellsFr s n ↔ n ≤ a ∧ ∃ o v, s.heap.get? a = some o ∧ o.data = .cell v := by
  unfold cellsFr
  rw [List.mem_filter, decide_eq_true_iff]
  exact ⟨fun h => h.2, fun h => ⟨List.mem_range.mpr (by obtain ⟨_, o, v, e, _⟩ := h; exact Heap.lt_size e), h⟩⟩
theorem funs_cut {s : Shared} {n : Nat} {base : Heap} : ∀ {l : List Env}, (∀ b ∈ frs l, b < n) → s.heap.FunFrames base l → (cut s n).heap.FunFrames base l
  | [], _, _ => trivial
  | e :: l, hb, h => by
    obtain ⟨hk, ⟨L, o, hf, hn, ho, hd⟩, hr⟩ := h
    have eL : L ∈ frs (e :: l) := by unfold frs; rw [List.filterMap_cons, hf]; exact List.mem_cons_self
    refine ⟨hk, ⟨L, o, hf, hn, (cut_get (hb L eL)).trans ho, hd⟩, funs_cut (fun b z => hb b ?_) hr⟩
    unfold frs
    rw [List.filterMap_cons, hf]
    exact List.mem_cons_of_mem _ z
/-- when a generator may be woken -/
structure Wk (P : Program) (w : World) (K : PySem.W.Frag) (mg : Str → Option Value) (base : Heap) (A : Around) (ou : List Env) (pv : List (Addr × Obj)) (s : Shared) (H : Hp) : Prop where
  env : Env0 P w K mg base A ou s H
  pv : ∀ p ∈ pv, s.heap.get? p.1 = some p.2 ∧ H p.1 = none
section
variable {X : Cx} {b0 : Bs} {ip : List (Addr × Obj)} {σ : L2.St} {H H2 : Hp} {s s2 : Shared} {ol : Obj} {A : Around}
theorem fs_low (I : Inv (rb X b0) ip σ H s) : ∀ b ∈ X.fs, b < X.env.locals := fun b hb => by
  obtain ⟨_, o, e, _⟩ := I.ok.funs.mem hb
  exact Nat.lt_of_lt_of_le (Heap.lt_size e) I.ok.above
noncomputable def nextB (n : Nat) (s : Shared) (H : Hp) (pv : List (Addr × Obj)) (m : Nat) : Bs := ⟨cut s n, cutH H n, pinsOf s H n pv, s, H, pv, m⟩
/-- woken in another heap -/
theorem rebase (I : Inv (rb X b0) ip σ H s) (hex : X.ex = []) (hcell : ∀ x c, X.env.cells.lookup x = some c → False) (hl : s.heap.get? X.env.locals = some ol) (hhi : ∀ q ∈ ip, X.env.locals ≤ q.1)
    (wk : Wk X.prog X.w X.K X.mg X.base A X.outer ((X.env.locals, ol) :: ip) s2 H2) (m : Nat) : Ri X (nextB X.env.locals s2 H2 ((X.env.locals, ol) :: ip) m) ip σ H2 s2 := by
  have n2 : X.env.locals < s2.heap.objs.size := Heap.lt_size (wk.pv _ List.mem_cons_self).1
  have n2' := Nat.le_of_lt n2
  have low := fs_low I
  have hexn : ∀ b, b ∉ X.ex := fun b z => by rw [hex] at z; exact nomatch z
  have bl : ∀ b o, X.base.get? b = some o → b < X.env.locals := fun b o e => Nat.lt_of_lt_of_le (Heap.lt_size e) (Nat.le_trans I.ok.bsz I.ok.above)
  have cH : ∀ {a}, a < X.env.locals → cutH H2 X.env.locals a = H2 a := fun h => if_pos h
  have cHs : ∀ {a u}, cutH H2 X.env.locals a = some u → H2 a = some u := fun {a u} h => by
    unfold cutH at h
    split at h
    · exact h
    · cases h
  refine ⟨⟨⟨I.ok.mod, I.ok.kind, I.ok.glob, I.ok.blt, ?_, I.ok.inj, I.ok.has, fun x c _ e => (hcell x c e).elim, I.ok.hd, I.ok.frames, I.ok.stk, I.ok.exf, fun b o e => ?_, ?_, fun b o _ => hexn b, fun b z => absurd z (hexn b), funs_cut low wk.env.funs, fun b hb => ?_⟩,
    rfl, wk.env.bare, ⟨fun b o e n _ _ => (cut_some n2' e).2, fun b o e n _ _ => ⟨o.slots, (cut_some n2' e).2⟩, fun b o e n _ => ?_, fun b o e _ => ⟨o, (cut_some n2' e).2⟩, fun b xs q => cHs q, fun b o u q => cHs q, fun b ps q => ⟨#[], by rw [cHs q]; simp⟩⟩, ?_,
    fun x c e => (hcell x c e).elim, (wk.pv _ List.mem_cons_self).2, fun x c e => (hcell x c e).elim, fun p hp => ?_, wk.env.hok, I.len⟩, fun p hp q hq z => ?_, hhi, ?_⟩
  · show (cut s2 X.env.locals).heap.objs.size ≤ X.env.locals
    rw [cut_size n2']; exact Nat.le_refl _
  · obtain ⟨y1, y2⟩ := wk.env.bs b o e
    exact ⟨(cut_get (bl b o e)).trans y1, (cH (bl b o e)).trans y2⟩
  · show X.base.objs.size ≤ (cut s2 X.env.locals).heap.objs.size
    rw [cut_size n2']
    exact Nat.le_trans I.ok.bsz I.ok.above
  · exact (cH (low b hb)).trans (wk.env.frf b hb)
  · exact (cH (cut_some n2' e).1).symm.trans n
  · obtain ⟨mm, hn, hv⟩ := I.loc
    refine ⟨mm, hn.at fun o e => ?_, fun i x v h1 h2 h3 => ?_⟩
    · rw [hl] at e; cases e
      exact (wk.pv _ List.mem_cons_self).1
    · obtain ⟨u, ru, lk⟩ := hv i x v h1 h2 h3
      refine ⟨u, ru, ?_⟩
      rcases lk with y | ⟨_, c, e, _⟩
      · exact .inl y
      · exact (hcell x c e).elim
  · rcases List.mem_append.mp hp with z | z
    · obtain ⟨y1, y2, y3, y4, y5⟩ := mem_pinsOf.mp z
      refine ⟨y4, y2, fun e => y3 _ List.mem_cons_self e.symm, fun e => ?_, y5⟩
      exact absurd (Nat.lt_of_lt_of_le (low _ e) y1) (Nat.lt_irrefl _)
    · obtain ⟨_, _, y3, y4, y5⟩ := I.pin p (List.mem_append_right _ z)
      obtain ⟨z1, z2⟩ := wk.pv p (List.mem_cons_of_mem _ z)
      exact ⟨z1, z2, y3, y4, y5⟩
  · obtain ⟨_, _, y3, _⟩ := mem_pinsOf.mp hp
    exact y3 q (List.mem_cons_of_mem _ hq) z.symm
  · exact ⟨cut_size n2', fun a h => cut_get h, fun a h => cH h, fun a o h1 h2 h3 h4 h5 => mem_pinsOf.mpr ⟨h1, h3, h4, h2, h5⟩, ⟨ol, List.mem_cons_self⟩, rfl⟩
/-- what a stretch did -/
structure Tnd (P : Program) (w : World) (ou : List Env) (n0 : Nat) (pv pv' : List (Addr × Obj)) (s : Shared) (H : Hp) (s' : Shared) (H' : Hp) : Prop where
  os : s'.os = s.os
  bare : AllBare s'.gens
  un : Un (frs ou) (pv.map (·.1) ++ cellsFr s n0) H H' s.heap s'.heap
  hok : HOk P w H' s'.heap
  own : ∀ p ∈ pv', s'.heap.get? p.1 = some p.2 ∧ H' p.1 = none ∧ n0 ≤ p.1 ∧ p.1 ∉ frs ou ∧ (p.1 ∈ pv.map (·.1) ++ cellsFr s n0 ∨ s.heap.get? p.1 = none) ∧ ∀ v, p.2.data ≠ .cell v
theorem obj_get {P : Program} {w : World} {H : Hp} {h : Heap} {a : Addr} {u : HO} (x : ObjOk P w H h a u) : ∃ o, h.get? a = some o := by
  induction u with
  | lst xs => obtain ⟨_, _, _, _, e⟩ := x; exact ⟨_, e⟩
  | tup xs => obtain ⟨_, _, _, p⟩ := x; obtain ⟨o, e, _⟩ := p; exact ⟨o, e⟩
  | dK kvs => obtain ⟨_, _, _, _, o, _, _, e, _⟩ := x; exact ⟨o, e⟩
  | dT kvs => obtain ⟨_, _, _, _, o, _, _, e, _⟩ := x; exact ⟨o, e⟩
  | set S n => obtain ⟨o, _, _, _, e, _⟩ := x; exact ⟨o, e⟩
  | ins C dx fs => obtain ⟨_, _, _, e, _⟩ := x; exact ⟨_, e⟩
  | own y => exact x
  | xd fs => obtain ⟨_, ⟨_, _, _, e, _⟩, _⟩ := x; exact ⟨_, e⟩
  | rng lo hi => obtain ⟨_, _, _, e⟩ := x; exact ⟨_, e⟩
  | frz o u ih => exact ⟨o, x.1⟩
  | tbl ps => exact ⟨_, x⟩
  | met f y => exact ⟨_, x⟩
  | ext φ => exact x.2.1
theorem tnd_of {b : Bs} (I : Ri X b ip σ H s) (hex : X.ex = []) (tm : Tame b.fH H) {pv' : List (Addr × Obj)}
    (hpv : pv' = [] ∨ ∃ o, s.heap.get? X.env.locals = some o ∧ pv' = (X.env.locals, o) :: ip) : Tnd X.prog X.w X.outer X.env.locals b.pv pv' b.full b.fH s H := by
  obtain ⟨J, off, hi, vb⟩ := I
  have low := fs_low J
  have hexn : ∀ b, b ∉ X.ex := fun b z => by rw [hex] at z; exact nomatch z
  have lows : ∀ {a o}, a < X.env.locals → b.full.heap.get? a = some o → b.s.heap.get? a = some o := fun h e => (vb.low _ h).trans e
  have pin : ∀ {a o}, X.env.locals ≤ a → b.full.heap.get? a = some o → b.fH a = none → a ∉ b.pv.map (·.1) ++ cellsFr b.full X.env.locals → s.heap.get? a = some o ∧ H a = none := fun {a o} h e n z => by
    have := J.pin (a, o) (List.mem_append_left _ (vb.pns a o h e n (fun p hp y => z (List.mem_append_left _ (List.mem_map.mpr ⟨p, hp, y⟩))) fun v y => z (List.mem_append_right _ (mem_cellsFr.mpr ⟨h, o, v, e, y⟩))))
    exact ⟨this.1, this.2.1⟩
  refine ⟨J.os.trans vb.os, J.bare, ⟨fun a o e n h1 h2 => ?_, fun a o e n h1 h2 => ?_, fun a o e n h2 => ?_, fun a o e h2 => ?_, tm.tups, tm.frzs, tm.tbls⟩, J.hok, fun p hp => ?_⟩
  · by_cases h : a < X.env.locals
    · exact J.base.keep a o (lows h e) ((vb.lowH a h).trans n) h1 (hexn a)
    · exact (pin (Nat.le_of_not_lt h) e n h2).1
  · have h := low a h1
    exact J.base.slot a o (lows h e) ((vb.lowH a h).trans n) h1 (hexn a)
  · by_cases h : a < X.env.locals
    · exact J.base.free a o (lows h e) ((vb.lowH a h).trans n) (hexn a)
    · exact (pin (Nat.le_of_not_lt h) e n h2).2
  · by_cases h : a < X.env.locals
    · exact J.base.there a o (lows h e) (hexn a)
    · cases n : b.fH a with
      | none => exact ⟨o, (pin (Nat.le_of_not_lt h) e n h2).1⟩
      | some u =>
        cases q : H a with
        | none => exact absurd q (tm.kept a (by rw [n]; exact fun z => by cases z))
        | some u' => exact obj_get (J.hok a u' q)
  · rcases hpv with z | ⟨ol, el, z⟩
    · rw [z] at hp; exact nomatch hp
    · rw [z] at hp
      rcases List.mem_cons.mp hp with y | y
      · rw [y]
        obtain ⟨o, ho⟩ := vb.loc
        exact ⟨el, J.free, Nat.le_refl _, fun e => absurd (low _ e) (Nat.lt_irrefl _), .inl (List.mem_append_left _ (List.mem_map.mpr ⟨_, ho, rfl⟩)), fun v q => by
          obtain ⟨mm, ⟨o2, _, _, e2, d2, _⟩, _⟩ := J.loc
          have e3 : s.heap.get? X.env.locals = some o2 := e2
          rw [el] at e3
          cases e3
          rw [d2] at q
          cases q⟩
      · obtain ⟨p1, p2, p3, p4, p5⟩ := J.pin p (List.mem_append_right _ y)
        refine ⟨p1, p2, hi p y, p4, ?_, p5⟩
        cases e : b.full.heap.get? p.1 with
        | none => exact .inr rfl
        | some o =>
          refine .inl ?_
          by_cases z : p.1 ∈ b.pv.map (·.1) ++ cellsFr b.full X.env.locals
          · exact z
          · exfalso
            cases n : b.fH p.1 with
            | none =>
              have := vb.pns p.1 o (hi p y) e n (fun q hq y => z (List.mem_append_left _ (List.mem_map.mpr ⟨q, hq, y⟩))) fun v y' => z (List.mem_append_right _ (mem_cellsFr.mpr ⟨hi p y, o, v, e, y'⟩))
              exact off _ this p y rfl
            | some u => exact tm.kept p.1 (by rw [n]; exact fun z => by cases z) p2
end
end
end Xk

set_option Elab.async false
set_option linter.all false
set_option maxRecDepth 100000
set_option maxHeartbeats 20000000
namespace Xk
open PySem PySem.Spec PyProof.Rows L2 GenW
theorem sg_mono {M : Model} {A : Around} {F F' : End → Shared → Prop} {c : Code} {tr : Sem PySem.Fin} {fs : List Frame} {s : Shared} (h : Sg M A F c tr fs s) (q : ∀ e s', F e s' → F' e s') : Sg M A F' c tr fs s := fun Γ p hc hw =>
  let ⟨e, s', r, z⟩ := h Γ p hc hw; ⟨e, s', r, q e s' z⟩
/-- its next stretch -/
def Step (M : Model) (A : Around) (F : End → Shared → Prop) (gs : GenState) (s : Shared) : Prop :=
  match gs with
  | .fresh c => Sg M A F c (M.den c) [] s
  | .suspended k _ c _ fs _ => Sg M A F c (k (.send .none)) fs s
  | _ => False
def Post (P : Program) (w : World) (ou : List Env) (n0 : Nat) (M : Mach) (nxt : Nat → M.S → List (Addr × Obj) → GenState → Prop) (i : Nat) (q : M.S) (pv : List (Addr × Obj)) (s : Shared) (H : Hp) (e : End) (s' : Shared) : Prop :=
  match e with
  | .ret r => r = .ok (.ret .none) ∧ i = M.n ∧ ∃ H', Same H H' ∧ Tnd P w ou n0 pv [] s H s' H'
  | .susp v g l k c p fs => g = false ∧ splitAtGen fs = none ∧ fs.any Frame.guarded = false ∧ ∃ x q' pv' H', RelV x v ∧ i < M.n ∧ M.Y i q H x q' H' ∧ Tnd P w ou n0 pv pv' s H s' H' ∧ nxt (i + 1) q' pv' (.suspended k l c p fs false)
/-- asleep, i items out: what it does for the next m - 1 times that it is woken -/
def RB (P : Program) (w : World) (K : PySem.W.Frag) (mg : Str → Option Value) (base : Heap) (A : Around) (ou : List Env) (n0 : Nat) (M : Mach) : Nat → Nat → M.S → List (Addr × Obj) → GenState → Prop
  | 0 => fun _ _ _ _ => True
  | m + 1 => fun i q pv gs => ∀ s H, Wk P w K mg base A ou pv s H → M.St i q H → Step (model P w) A (Post P w ou n0 M (RB P w K mg base A ou n0 M m) i q pv s H) gs s
/-- the stretches of a body -/
def famM (P : Program) (w : World) (K : PySem.W.Frag) (mg : Str → Option Value) (base : Heap) (A : Around) (ou : List Env) (n0 : Nat) (M : Mach) : Fam (Nat × M.S × Hp) := fun b u e s' =>
  u.2.2 = b.fH → Post P w ou n0 M (RB P w K mg base A ou n0 M b.m) u.1 u.2.1 b.pv b.full b.fH e s'
theorem vyl_M {X : Cx} {A : Around} {M : Mach} (hex : X.ex = []) (hcell : ∀ x c, X.env.cells.lookup x = some c → False) : VYl X A (famM X.prog X.w X.K X.mg X.base A X.outer X.env.locals M) M.ends.yl := by
  intro b u x v ip σ H s l k c p fs N rv I hy hsp hgu hk e
  obtain ⟨i, q, H0⟩ := u
  obtain ⟨q', hi, hY, hN⟩ := hy
  have e' : H0 = b.fH := e
  subst e'
  obtain ⟨mm, hn, _⟩ := I.inv.loc
  obtain ⟨ol, _, _, el, _⟩ := hn
  refine ⟨rfl, hsp, hgu, x, q', (X.env.locals, ol) :: ip, H, rv, hi, hY, tnd_of I hex (M.tame _ _ _ _ _ _ hY) (.inr ⟨ol, el, rfl⟩), ?_⟩
  cases hm : b.m with
  | zero => trivial
  | succ m =>
    intro s2 H2 wk st2
    exact sg_mono (hk (nextB X.env.locals s2 H2 ((X.env.locals, ol) :: ip) m) (i + 1, q', H2) s2 H2 (rebase I.inv hex hcell el I.hi wk m) (hN H2 st2)) fun e3 s3 z => z rfl
/-! ### the call of a generator def -/
structure VMade (P : Program) (w : World) (K : PySem.W.Frag) (mg : Str → Option Value) (base : Heap) (k : Nat) (ou : List Env) (t : Shared) (M : Mach) (q0 : M.S) (a : Addr) (n : Nat) (c : Code) (pv : List (Addr × Obj)) (t1 : Shared) : Prop where
  low : t.heap.objs.size ≤ a
  gen : t1.heap.IsGen a n
  num : n = t.gens.size
  gens : t1.gens = t.gens.push (.fresh c)
  os : t1.os = t.os
  kept : ∀ b o, t.heap.get? b = some o → t1.heap.get? b = some o
  own : ∀ p ∈ pv, t1.heap.get? p.1 = some p.2 ∧ t.heap.objs.size ≤ p.1 ∧ p.1 ≠ a ∧ ∀ v, p.2.data ≠ .cell v
  wake : ∀ (A : Around) (m : Nat), A.guards = some [] → Room k A → A.frames = some ou → RB P w K mg base A ou t.heap.objs.size M m 0 q0 pv (.fresh c)
abbrev SpV := List V → Hp → ((M : Mach) → M.S → Prop) → Prop
structure GFnV (P : Program) (w : World) (K : PySem.W.Frag) (mg : Str → Option Value) (B : Heap) (k : Nat) (f : Addr) (fd : FuncData) (ps : List Str) (sp : SpV) : Prop where
  cnt : ∀ vs H C, sp vs H C → vs.length = ps.length
  go : ∀ (A : Around) (ou : List Env) (t : Shared) (H : Hp) (ar : Args) (us : List Value) (vs : List V) (C : (M : Mach) → M.S → Prop), Room k A → Env0 P w K mg B A ou t H → BindsTo t fd ar (ps.zip us) → Vals vs us → sp vs H C →
    codeAny (model P w) A (.call (.ref f) ar) (fun r t1 => ∃ (a : Addr) (n : Nat) (c : Code) (pv : List (Addr × Obj)) (M : Mach) (q0 : M.S), r = .ok (.ret (.ref a)) ∧ C M q0 ∧ VMade P w K mg B k ou t M q0 a n c pv t1) t
theorem okGV {P : Program} {w : World} {K : PySem.W.Frag} {mg : Str → Option Value} {B : Heap} {x qual : Str} {st : Stmt} {f : Addr} {fd : FuncData} {N ps : List Str} {k : Nat} {sp : SpV} (F : Fun K x qual st f fd) (S : GScope N ps (defScope st)) (nc : ∀ n, cellsFrom n (defScope st).names [] = []) (cnt : ∀ vs H C, sp vs H C → vs.length = ps.length)
    (body : ∀ (vs : List V) (H : Hp) (C : (M : Mach) → M.S → Prop), sp vs H C → ∃ (M : Mach) (q0 : M.S), C M q0 ∧ ∀ (cdv : Value) (A : Around) (ou : List Env) (t : Shared) (E : XK), A.guards = some [] → Room k (A.deeper (envOfC qual (defScope st) t.heap.objs.size f cdv)) →
      ∃ r, GVs (Nat × M.S × Hp) (gcxOf P w K mg B N qual (defScope st) f cdv A ou t H E []).nox (defBody st) r ∧ ∀ H2, M.St 0 q0 H2 → r M.ends (0, q0, H2) (L2.start N vs) H2) : GFnV P w K mg B (k + 1) f fd ps sp := by
  refine ⟨cnt, fun A ou t H ar us vs C hr e0 bi r hsp => ?_⟩
  obtain ⟨oc, od, kV, doc, pm, an, cdv, ct, osl, rfl, lk, hcd⟩ := F.ex
  obtain ⟨M, q0, hC, hbody⟩ := body vs H C hsp
  have hl := cnt _ _ _ hsp
  have kin : K.In t.heap := e0.mod.kin.keeps fun b o e => (e0.bs b o e).1
  have lim := e0.mod.nolimit.keeps fun b o e => (e0.bs b o e).1
  have kinds : ∀ y ∈ ps.zip us, (defScope st).names.lookup y.1 = some .local ∨ ((defScope st).names.lookup y.1 = some .cell ∧ ((cellsFrom (t.heap.objs.size + 1) (defScope st).names []).lookup y.1).isSome = true) := fun y hy =>
    (S.par y.1 (List.of_mem_zip (a := y.1) (b := y.2) hy).1).imp id fun e => ⟨e, PySem.W.cellsFrom_some _ _ _ (.inl e)⟩
  refine codeAny_call_generator hr.depth (kin _ _ lk) rfl S.co S.gen rfl (PySem.W.codeRec_of kin hcd) (bi _ _ _ _ (wpAny_newFunctionEnv_cells S.kind kinds fun env he t1 x => ?_))
  subst he
  refine ⟨lim.keeps x.toInCall.keep, ?_⟩
  obtain ⟨h1, tk, es1, hk1⟩ := x.done
  have lt1 : t.heap.objs.size < t1.heap.objs.size := x.toInCall.ns.lt
  obtain ⟨ol, _, _, eol, eold, _⟩ := id x.toInCall.ns
  have main : ∀ (go : Obj) (nm qn : Value) (tk2 : Nat), go.cls = .type "generator" → go.data = .fields #[.int t1.gens.size 0, nm, qn] → go.slots = #[] → (∀ h : Heap, (h.push go).get? h.objs.size = some go) →
      ∃ (a : Addr) (n : Nat) (c : Code) (pv : List (Addr × Obj)) (M : Mach) (q0 : M.S), (Except.ok (Flow.ret (Value.ref t1.heap.objs.size)) : Result) = .ok (.ret (.ref a)) ∧ C M q0 ∧ VMade P w K mg B (k + 1) ou t M q0 a n c pv { t1 with gens := t1.gens.push (.fresh (.func (defBody st) (envOfC qual (defScope st) t.heap.objs.size f cdv))), toks := tk2, heap := t1.heap.push go } := by
    intro go nm qn tk2 gc gd gs gp
    refine ⟨t1.heap.objs.size, t1.gens.size, _, [(t.heap.objs.size, ol)], M, q0, rfl, hC, Nat.le_of_lt lt1, ⟨go, nm, qn, gp _, gc, gd, gs⟩, by rw [es1], by show t1.gens.push _ = _; rw [es1], by show t1.os = _; rw [es1], fun b o e => Heap.get?_push_of_some _ (x.toInCall.keep b o e), fun p hp => ?_, fun A2 m hG2 hr2 hf2 => ?_⟩
    · rw [List.mem_singleton.mp hp]
      exact ⟨Heap.get?_push_of_some _ eol, Nat.le_refl _, Nat.ne_of_lt lt1, fun v q => by
        have q' : ol.data = .cell v := q
        rw [eold] at q'
        cases q'⟩
    · cases m with
      | zero => trivial
      | succ m =>
        intro s2 H2 wk st2
        obtain ⟨tr, hb, hq⟩ := hbody cdv A2 ou t (fun _ _ _ => False) hG2 (hr2.deeper _)
        have e2 : Env0 P w K mg B A2 ou t H := ⟨hf2, e0.mod, e0.bs, e0.bsz, e0.funs, e0.frf, e0.hok, e0.bare⟩
        have J1 := inv_startG (E := fun _ _ _ => False) S hr2.hd e2 hl r x
        have J2 : Inv (rb (gcxOf P w K mg B N qual (defScope st) f cdv A2 ou t H (fun _ _ _ => False) []).nox ⟨t, H, [], t, H, [], 0⟩) [] (L2.start N vs) H t1 := J1.wish _
        have hcell : ∀ y c, (envOfC qual (defScope st) t.heap.objs.size f cdv).cells.lookup y = some c → False := fun y c e => by
          have e' : (cellsFrom (t.heap.objs.size + 1) (defScope st).names []).lookup y = some c := e
          rw [nc] at e'
          exact nomatch e'
        have R0 := rebase (X := (gcxOf P w K mg B N qual (defScope st) f cdv A2 ou t H (fun _ _ _ => False) []).nox) J2 rfl hcell eol (fun q hq => nomatch hq) wk m
        refine sg_func ?_
        refine sg_mono (F := famM P w K mg B A2 ou t.heap.objs.size M (nextB t.heap.objs.size s2 H2 [(t.heap.objs.size, ol)] m) (0, q0, H2)) ?_ fun e s' z => z rfl
        refine hb.run A2 (famM P w K mg B A2 ou t.heap.objs.size M) [] (nextB t.heap.objs.size s2 H2 [(t.heap.objs.size, ol)] m) (0, q0, H2) _ [] _ _ id id s2 (L2.start N vs) H2 M.ends ⟨over_func, rfl, rfl, rfl⟩ (vyl_M rfl hcell) (fun b u s' fl hs => ?_) R0 (hq H2 st2)
        cases fl with
        | next =>
          obtain ⟨σ', H', I', hn, hs⟩ := hs
          exact sg_end (.ok (.ret .none)) fun e => ⟨rfl, hn, H', e ▸ hs, tnd_of I' rfl (e ▸ Tame.of_same hs) (.inl rfl)⟩
        | brk => obtain ⟨_, _, _, z⟩ := hs; exact z.elim
        | cont => obtain ⟨_, _, _, z⟩ := hs; exact z.elim
        | ret v =>
          obtain ⟨y, σ', H', I', rv, ey, hn, hs⟩ := hs
          subst ey
          have ev : v = Value.none := rv
          subst ev
          exact sg_end (.ok (.ret .none)) fun e => ⟨rfl, hn, H', e ▸ hs, tnd_of I' rfl (e ▸ Tame.of_same hs) (.inl rfl)⟩
  exact main _ _ _ _ rfl rfl rfl fun h => Heap.get?_push_size _ rfl
end Xk

set_option Elab.async false
set_option linter.all false
set_option maxRecDepth 100000
set_option maxHeartbeats 20000000
namespace Xk
open PySem PySem.Spec PyProof.Rows L2 GenW
/-! ### woken once -/
theorem wpAny_wake {α : Type} {M : Model} {A : Around} {F : End → Shared → Prop} {g : Nat} {gs : GenState} {l : List Value} {k : GenResult → Sem α} {Q : α → Shared → Prop} {E : Value → Shared → Prop} {s : Shared} (hg : s.gens[g]? = some gs) (st : Step M A F gs (s.setGen g .running))
    (hq : ∀ e s1, F e s1 → e.quiet = true ∧ wpAny M A (k e.result) Q E (s1.setGen g e.genState)) : wpAny M A (.resume g (.send .none) l k) Q E s := by
  intro Γ p hΓ
  rw [Sem.wp_resume]
  cases gs with
  | fresh c =>
    obtain ⟨e, s1, r, z⟩ := st (Γ.wake c p) p rfl (hΓ.wake c p)
    obtain ⟨y1, y2⟩ := hq e s1 z
    exact ⟨_, _, by unfold Wakes; rw [hg]; exact ⟨e, s1, r, y1, rfl, rfl⟩, y2 Γ p hΓ⟩
  | suspended k₀ l₀ c₀ p₀ fs₀ cl =>
    obtain ⟨e, s1, r, z⟩ := st (Γ.wake c₀ p) p₀ rfl (hΓ.wake c₀ p)
    obtain ⟨y1, y2⟩ := hq e s1 z
    exact ⟨_, _, by unfold Wakes; rw [hg]; exact ⟨e, s1, r, y1, rfl, rfl⟩, y2 Γ p hΓ⟩
  | running => exact st.elim
  | finished => exact st.elim
/-- its number of turns: no item, and the heap may have grown; or an item -/
theorem next_v {P : Program} {w : World} {A : Around} {s : Shared} {F : End → Shared → Prop} {a : Addr} {g : Nat} {gs : GenState} {Q : Option Value → Shared → Prop} {E : Value → Shared → Prop} (hh : A.handled = none) (hl : s.heap.NoLimit) (hroom : A.depth < recursionLimit) (hg : s.heap.IsGen a g) (hgs : s.gens[g]? = some gs)
    (st : Step (model P w) A.in1 F gs (s.setGen g .running)) (hq : ∀ e s1, F e s1 → e.quiet = true)
    (hR : ∀ r s1, F (.ret r) s1 → r = .ok (.ret .none) ∧ ∀ h', (∀ b o, s1.heap.get? b = some o → h'.get? b = some o) → Q none { s1.setGen g .finished with heap := h' })
    (hY : ∀ v gd l k c p fs s1, F (.susp v gd l k c p fs) s1 → Q (some v) (s1.setGen g (.suspended k l c p fs (gd || fs.any Frame.guarded)))) : wpAny (model P w) A (pyNext (.ref a)) Q E s := by
  unfold pyNext
  refine wpAny_bind (wpAny_attempt (wpAny_callSpecial?_slot (name := Str.ofString "__next__") hg.typeIs slot_gen_next (wpAny_call_entry slot_gen_next hg.typeIs entry_gen_next ?_ (args_gen_next _))))
  show wpAny _ A.in1 (Builtin.Generator.genWake (.ref a) (.send .none)) _ _ s
  unfold Builtin.Generator.genWake
  refine wpAny_bind (wpAny_holding (wpAny_genNumber hg (wpAny_bind (wpAny_genState hgs ?_))))
  cases gs with
  | running => exact st.elim
  | finished => exact st.elim
  | _ =>
    refine wpAny_bind (wpAny_roomToWake hl hroom ?_)
    show wpAny _ A.in1 (.resume g (.send .none) [] _) _ _ s
    refine wpAny_wake hgs st fun e s1 z => ⟨hq e s1 z, ?_⟩
    cases e with
    | susp v gd l k c p fs => exact wpAny_pure ⟨v, rfl, wpAny_pure (hY v gd l k c p fs s1 z)⟩
    | ret r =>
      obtain ⟨er, hp⟩ := hR r s1 z
      subst er
      show wpAny _ A.in1 (newExc (.type "StopIteration") [] >>= _) _ _ (s1.setGen g .finished)
      refine wpAny_bind ?_
      simp only [newExc, newTuple]
      refine wpAny_bind (wpAny_newObj_type ?_ (by size_fits))
      refine wpAny_bind (m := firstArgMember _ _) (wpAny_of_eq (a := Value.none) (by first | rfl | (simp only [firstArgMember]; rfl)) ?_)
      refine wpAny_newObj_type ?_ (by size_fits)
      simp only [raiseNew]
      refine wpAny_bind (wpAny_bind (wpAny_handled ?_))
      first | rw [show A.in1.handled = none from hh] | rw [hh]
      refine wpAny_throw ?_
      refine wpAny_bind (wpAny_isInstance (T := "StopIteration") (b := true) ⟨_, Heap.get?_push_size _ rfl, rfl⟩ isSubtype_stop ?_)
      exact wpAny_pure (hp _ fun b o hb => Heap.get?_push_of_some _ (Heap.get?_push_of_some _ hb))
/-- a consumer's sleeping generator -/
structure Gn (X : Cx) (A : Around) (n0 : Nat) (M : Mach) (m i : Nat) (q : M.S) (pv : List (Addr × Obj)) (a : Addr) (n : Nat) (s : Shared) : Prop where
  gen : s.heap.IsGen a n
  gs : ∃ gs, s.gens[n]? = some gs ∧ PlainG gs ∧ RB X.prog X.w X.K X.mg X.base A X.stack n0 M m i q pv gs
  pv : ∀ p ∈ pv, s.heap.get? p.1 = some p.2 ∧ ∀ v, p.2.data ≠ .cell v
  low : X.env.locals < n0
  cells : ∀ x c, X.env.cells.lookup x = some c → c < n0
def GOff (X : Cx) (pins : List (Addr × Obj)) (H : Hp) (pv : List (Addr × Obj)) (a : Addr) : Prop := (∀ p ∈ pv, FpOk X pins H p.1 ∧ p.1 ≠ a) ∧ FpOk X pins H a
section
variable {X : Cx} {pins : List (Addr × Obj)} {σ : L2.St} {H : Hp} {s : Shared}
theorem inv_tnd {n0 : Nat} {pv pv' : List (Addr × Obj)} {s' : Shared} {H' : Hp} {a : Addr} {n : Nat} (I : Inv X pins σ H s) (hl : X.env.locals < n0) (hc : ∀ x c, X.env.cells.lookup x = some c → c < n0) (hg : s.heap.IsGen a n) (off : GOff X pins H pv a) (z : Tnd X.prog X.w X.stack n0 pv pv' s H s' H') :
    Inv X pins σ H' s' ∧ s'.heap.IsGen a n ∧ GOff X pins H' pv' a := by
  have hlow : X.s_0.heap.objs.size < n0 := Nat.lt_of_le_of_lt I.ok.above hl
  have nfs : ∀ b, n0 ≤ b → b ∉ X.fs := fun b hb hm => by
    obtain ⟨_, o, e, _⟩ := I.ok.funs.mem hm
    exact absurd (Nat.lt_of_lt_of_le (Nat.lt_trans (Heap.lt_size e) hlow) hb) (Nat.lt_irrefl _)
  have ch : ∀ b ∈ pv.map (·.1) ++ cellsFr s n0, (b ∈ X.ex ∨ X.s_0.heap.objs.size ≤ b) ∧ b ≠ X.env.locals ∧ (∀ x c, X.env.cells.lookup x = some c → c ≠ b) ∧ ∀ p ∈ X.pn ++ pins, p.1 ≠ b := fun b hb => by
    rcases List.mem_append.mp hb with y | y
    · obtain ⟨p, hp, rfl⟩ := List.mem_map.mp y
      obtain ⟨f, _⟩ := off.1 p hp
      exact ⟨f.2.2.2.1, f.2.1, f.2.2.2.2.1, f.2.2.2.2.2⟩
    · obtain ⟨y1, o, v, y2, y3⟩ := mem_cellsFr.mp y
      refine ⟨.inr (Nat.le_of_lt (Nat.lt_of_lt_of_le hlow y1)), Nat.ne_of_gt (Nat.lt_of_lt_of_le hl y1), fun x c e => Nat.ne_of_lt (Nat.lt_of_lt_of_le (hc x c e) y1), fun p hp e => ?_⟩
      obtain ⟨p1, _, _, _, p5⟩ := I.pin p hp
      rw [e, y2] at p1
      cases p1
      exact p5 v y3
  have I' : Inv X pins σ H' s' := I.call' z.os z.un z.hok z.bare ch
  obtain ⟨go, nm, qn, eg, gc, gd, gsl⟩ := hg
  have hga : a ∉ pv.map (·.1) ++ cellsFr s n0 := fun hb => by
    rcases List.mem_append.mp hb with y | y
    · obtain ⟨p, hp, e⟩ := List.mem_map.mp y
      exact (off.1 p hp).2 e
    · obtain ⟨_, o, v, y2, y3⟩ := mem_cellsFr.mp y
      rw [eg] at y2
      cases y2
      rw [gd] at y3
      cases y3
  obtain ⟨fa1, fa2, fa3, fa4, fa5, fa6⟩ := off.2
  have nst : a ∉ frs X.stack := fun hm => (List.mem_cons.mp (I.stkSub a hm)).elim fa2 fa3
  refine ⟨I', ⟨go, nm, qn, z.un.keep a go eg fa1 nst hga, gc, gd, gsl⟩, fun p hp => ?_, z.un.free a go eg fa1 hga, fa2, fa3, fa4, fa5, fa6⟩
  obtain ⟨p1, p2, p3, p4, p5, _⟩ := z.own p hp
  have sub : p.1 ≠ X.env.locals := Nat.ne_of_gt (Nat.lt_of_lt_of_le hl p3)
  refine ⟨⟨p2, sub, nfs _ p3, .inr (Nat.le_of_lt (Nat.lt_of_lt_of_le hlow p3)), fun x c e => Nat.ne_of_lt (Nat.lt_of_lt_of_le (hc x c e) p3), fun y hy e => ?_⟩, fun e => ?_⟩
  · rcases p5 with p5 | p5
    · exact (ch p.1 p5).2.2.2 y hy e
    · have := (I.pin y hy).1
      rw [e, p5] at this
      cases this
  · rcases p5 with p5 | p5
    · exact hga (e ▸ p5)
    · rw [e, eg] at p5; cases p5
/-- next(g), as its consumer sees it -/
def NextV (X : Cx) (pins : List (Addr × Obj)) (σ : L2.St) (A : Around) (n0 : Nat) (M : Mach) (m i : Nat) (q : M.S) (H : Hp) (a : Addr) (n : Nat) (r : Option Value) (s' : Shared) : Prop :=
  (r = none ∧ i = M.n ∧ ∃ H', Same H H' ∧ Inv X pins σ H' s') ∨
  ∃ v x q' pv' H', r = some v ∧ RelV x v ∧ i < M.n ∧ M.Y i q H x q' H' ∧ Inv X pins σ H' s' ∧ Gn X A n0 M m (i + 1) q' pv' a n s' ∧ GOff X pins H' pv' a ∧ ∃ k l c p fs cl, s'.gens[n]? = some (GenState.suspended k l c p fs cl)
theorem vnext {Ao : Around} {n0 : Nat} {M : Mach} {m i : Nat} {q : M.S} {pv : List (Addr × Obj)} {a : Addr} {n : Nat} {E : Value → Shared → Prop} (hh : Ao.handled = none) (hroom : Ao.depth < recursionLimit) (hf : Ao.frames = some X.stack) (I : Inv X pins σ H s) (G : Gn X Ao.in1 n0 M (m + 1) i q pv a n s) (off : GOff X pins H pv a) (st : M.St i q H) :
    wpAny (model X.prog X.w) Ao (pyNext (.ref a)) (NextV X pins σ Ao.in1 n0 M m i q H a n) E s := by
  obtain ⟨gs, hgs, hpl, hrb⟩ := G.gs
  have hlt : n < s.gens.size := (Array.getElem?_eq_some_iff.mp hgs).1
  have e0 := I.env0
  have wk : Wk X.prog X.w X.K X.mg X.base Ao.in1 X.stack pv (s.setGen n .running) H := ⟨⟨hf, e0.mod, e0.bs, e0.bsz, e0.funs, e0.frf, e0.hok, allBare_setGen e0.bare rfl⟩, fun p hp => ⟨(G.pv p hp).1, (off.1 p hp).1.1⟩⟩
  have I0 : Inv X pins σ H (s.setGen n .running) := Inv.gens I rfl rfl (allBare_setGen I.bare rfl)
  have sz : ∀ {s1 : Shared}, (n + 1) ≤ s1.gens.size → n < s1.gens.size := fun h => h
  refine wpAny_gsz (n := n + 1) hlt (next_v hh I.nolimit hroom G.gen hgs (hrb _ H wk st) (fun e s1 z => ?_) (fun r s1 z => ?_) fun v gd l k c p fs s1 z => ?_)
  · cases e with
    | ret r => rfl
    | susp v gd l k c p fs =>
      obtain ⟨z1, z2, z3, _⟩ := z
      show (!(gd || fs.any Frame.guarded)) = true
      rw [z1, z3]; rfl
  · obtain ⟨z1, z2, H', z3, z4⟩ := z
    refine ⟨z1, fun h' k _ => .inl ⟨rfl, z2, H', z3, ?_⟩⟩
    obtain ⟨I1, _, _⟩ := inv_tnd I0 G.low G.cells G.gen off z4
    have I2 : Inv X pins σ H' (s1.setGen n .finished) := Inv.gens I1 rfl rfl (allBare_setGen I1.bare rfl)
    exact I2.kept (t' := (s1.setGen n .finished).toks) k
  · obtain ⟨z1, z2, z3, x, q', pv', H', rv, hi, hY, hT, hN⟩ := z
    intro hsz
    obtain ⟨I1, g1, o1⟩ := inv_tnd I0 G.low G.cells G.gen off hT
    have eb : (gd || fs.any Frame.guarded) = false := by rw [z1, z3]; rfl
    rw [eb]
    have hz : n < s1.gens.size := by
      have : n + 1 ≤ (s1.setGen n (.suspended k l c p fs (gd || fs.any Frame.guarded))).gens.size := hsz
      rw [setGen_size] at this
      exact this
    exact .inr ⟨v, x, q', pv', H', rfl, rv, hi, hY, Inv.gens I1 rfl rfl (allBare_setGen I1.bare rfl), ⟨g1, ⟨_, setGen_at hz, fun _ _ _ _ _ _ y => by cases y; exact z2, hN⟩, fun p hp => ⟨(hT.own p hp).1, (hT.own p hp).2.2.2.2.2⟩, G.low, G.cells⟩, o1, _, _, _, _, _, _, setGen_at hz⟩
end
end Xk

set_option Elab.async false
set_option linter.all false
set_option maxRecDepth 100000
set_option maxHeartbeats 20000000
namespace Xk
open PySem PySem.Spec PyProof.Rows L2 GenW
/-- those that sleep sleep on -/
def Keeps (s s' : Shared) : Prop := ∀ (i : Nat) (k : Resume → Sem PySem.Fin) (l : List Value) (c : Code) (p : Pos) (fs : List Frame) (cl : Bool), s.gens[i]? = some (GenState.suspended k l c p fs cl) → s'.gens[i]? = some (GenState.suspended k l c p fs cl)
theorem Keeps.trans {s1 s2 s3 : Shared} (a : Keeps s1 s2) (b : Keeps s2 s3) : Keeps s1 s3 := fun i k l c p fs cl e => b i k l c p fs cl (a i k l c p fs cl e)
section
variable {X : Cx} {pins : List (Addr × Obj)} {σ : L2.St} {H : Hp} {s : Shared}
theorem sp_left {D : Ends} {f : Flow} {s' t' : Shared} (b : AllBare s.gens) (L : Left (fun _ => False) s t' s') (h : SP X.nox pins D f t') : SP X pins D f s' := by
  have fix : ∀ {σ H}, Inv X.nox pins σ H t' → Inv X pins σ H s' := fun I => Inv.gens I.unwish L.heap L.os (L.bare b I.bare)
  cases f with
  | next => obtain ⟨σ, H, I, q⟩ := h; exact ⟨σ, H, fix I, q⟩
  | brk => obtain ⟨σ, H, I, q⟩ := h; exact ⟨σ, H, fix I, q⟩
  | cont => obtain ⟨σ, H, I, q⟩ := h; exact ⟨σ, H, fix I, q⟩
  | ret r => obtain ⟨v, σ, H, I, r1, q⟩ := h; exact ⟨v, σ, H, fix I, r1, q⟩
theorem left_keeps {t' s' : Shared} (L : Left (fun _ => False) s t' s') : Keeps s s' := fun i k l c p fs cl e => L.stay i k l c p fs cl (fun z => z) e
/-- a body, while others sleep -/
theorem pss_lull {body : List Stmt} {tb : TS} {D : Ends} {E : Value → Shared → Prop} (hb : PSs X.nox body tb) (I : Inv X pins σ H s) (h : tb D σ H) : wpAny (model X.prog X.w) X.A (execs body X.env) (fun f s' => SP X pins D f s' ∧ Keeps s s') E s := by
  refine wpAny_mono (wpAny_lull (fun _ => False) (fun _ _ z => z.elim) (hb.run pins (lull (fun _ => False) s) σ H D (Inv.gens (I.wish _) rfl rfl (lull_bare I.bare)) h)) (fun f s' z => ?_) fun e s' z => ?_
  · obtain ⟨t', L, q⟩ := z
    exact ⟨sp_left I.bare L q, left_keeps L⟩
  · obtain ⟨_, _, z⟩ := z
    exact z.elim
theorem pg_lull {tg : Expr} {g : TG} {v : V} {u : Value} {Q : L2.St → Hp → Prop} {E : Value → Shared → Prop} (hg : PG X.nox tg g) (I : Inv X pins σ H s) (r : RelV v u) (h : g v σ H Q) :
    wpAny (model X.prog X.w) X.A (assign tg X.env u) (fun _ s' => (∃ σ' H', Inv X pins σ' H' s' ∧ Q σ' H') ∧ Keeps s s') E s := by
  refine wpAny_mono (wpAny_lull (fun _ => False) (fun _ _ z => z.elim) (hg.run pins (lull (fun _ => False) s) σ H v u Q (Inv.gens (I.wish _) rfl rfl (lull_bare I.bare)) r h)) (fun f s' z => ?_) fun e s' z => ?_
  · obtain ⟨t', L, σ', H', I', q⟩ := z
    exact ⟨⟨σ', H', Inv.gens I'.unwish L.heap L.os (L.bare I.bare I'.bare), q⟩, left_keeps L⟩
  · obtain ⟨_, _, z⟩ := z
    exact z.elim
/-! ### made by a call -/
abbrev TGV := L2.St → Hp → ((M : Mach) → M.S → Hp → Prop) → Prop
structure PGen (X : Cx) (e : Expr) (k : Nat) (t : TGV) : Prop where
  run : ∀ (pins : List (Addr × Obj)) (s : Shared) (σ : L2.St) (H : Hp) (C : (M : Mach) → M.S → Hp → Prop), Inv X pins σ H s → t σ H C →
    wpAny (model X.prog X.w) X.A (eval e X.env) (fun u s2 => ∃ (a : Addr) (n : Nat) (c : Code) (pv : List (Addr × Obj)) (M : Mach) (q0 : M.S) (H1 : Hp) (s1 : Shared), u = .ref a ∧ Inv X pins σ H1 s1 ∧ C M q0 H1 ∧ VMade X.prog X.w X.K X.mg X.base k X.stack s1 M q0 a n c pv s2) X.xe s
def tCallV (sp : SpV) (ta : TA) : TGV := fun σ H C => ta σ H fun vs H1 => sp vs H1 fun M q0 => C M q0 H1
theorem pgen_call {k : Nat} {f : Addr} {fd : FuncData} {ps : List Str} {sp : SpV} {x : Str} {p pos' : Pos} {e : Expr} {es : List Expr} {ta : TA} (F : GFnV X.prog X.w X.K X.mg X.base k f fd ps sp) (hr : Room k X.A) (hg : Gl X x) (hm : X.mg x = some (.ref f)) (hk : PySem.W.keepIn X.K (.ref f) = true) (hb : Binds X.K fd ps [])
    (ha : PA X (e :: es) ta) (hd1 : (x == ("__debug__" : Str)) = false := by decide) (he : starEach (e :: es) X.env = (false, eval e X.env) :: starEach es X.env := by rfl) (hpl : (backTo pos' (starEach es X.env)).any (·.1) = false := by rfl) :
    PGen X (.Call (.Name x p) (e :: es) [] pos') k (tCallV sp ta) := by
  refine ⟨fun pins s σ H C I z => wpAny_Call_Name_kw (ld_glob I hg hm ?_ hd1)⟩
  refine PySem.W.callWith_K (h₀ := X.base) I.ok.mod.kin hk (thn (ha.run pos' pins s σ H _ I z) fun us s1 ⟨vs, H1, J, r, q⟩ => ⟨J.kIn, ?_⟩) he hpl
  have hlen : us.length = ps.length := r.length ▸ F.cnt _ _ _ q
  have bd := hb s1 us J.kIn (by rw [List.append_nil]; exact hlen)
  rw [List.append_nil] at bd
  refine wpAny_call (codeAny_mono (F.go X.A X.stack s1 H1 ⟨us, []⟩ us vs _ hr J.env0 bd r q) fun r s2 y => ?_)
  obtain ⟨a, n, c, pv, M, q0, rfl, hC, V⟩ := y
  exact ⟨a, n, c, pv, M, q0, H1, s1, rfl, J, hC, V⟩
theorem gn_made {k n m : Nat} {a : Addr} {c : Code} {pv : List (Addr × Obj)} {M : Mach} {q0 : M.S} {s2 : Shared} {A : Around} (I : Inv X pins σ H s) (V : VMade X.prog X.w X.K X.mg X.base k X.stack s M q0 a n c pv s2) (hG : A.guards = some []) (hr : Room k A) (hf : A.frames = some X.stack) :
    Inv X pins σ H s2 ∧ Gn X A s.heap.objs.size M m 0 q0 pv a n s2 ∧ GOff X pins H pv a := by
  have hb2 : AllBare s2.gens := by rw [V.gens]; exact AllBare.push I.bare rfl
  refine ⟨I.call' (ch := []) V.os (Un.kept V.kept) (I.hok.kept V.kept) hb2 fun b z => by simp at z, ⟨V.gen, ⟨.fresh c, ?_, (fun k l c p fs cl y => by cases y), V.wake A m hG hr hf⟩, fun p hp => ⟨(V.own p hp).1, (V.own p hp).2.2.2⟩, I.lt, fun x c e => ?_⟩, fun p hp => ⟨I.fpOk (V.own p hp).2.1 (I.hok.fresh (V.own p hp).2.1), (V.own p hp).2.2.1⟩, I.fpOk V.low (I.hok.fresh V.low)⟩
  · rw [V.gens, V.num]; exact Array.getElem?_push_size ..
  · obtain ⟨v, q⟩ := I.cell x c e
    exact q.lt
theorem Gn.sus {A : Around} {n0 m i n : Nat} {M : Mach} {q : M.S} {pv : List (Addr × Obj)} {a : Addr} {k l c p fs cl} (G : Gn X A n0 M m i q pv a n s) (e : s.gens[n]? = some (GenState.suspended k l c p fs cl)) {s' : Shared} (hk : Keeps s s') (ho : ∀ b o, (b = a ∨ b ∈ pv.map (·.1)) → s.heap.get? b = some o → s'.heap.get? b = some o) : Gn X A n0 M m i q pv a n s' := by
  obtain ⟨gs, h1, h2, h3⟩ := G.gs
  rw [e] at h1
  cases h1
  obtain ⟨go, nm, qn, eg, r⟩ := G.gen
  exact ⟨⟨go, nm, qn, ho a go (.inl rfl) eg, r⟩, ⟨_, hk n _ _ _ _ _ _ e, h2, h3⟩, fun p hp => ⟨ho p.1 p.2 (.inr (List.mem_map.mpr ⟨p, hp, rfl⟩)) (G.pv p hp).1, (G.pv p hp).2⟩, G.low, G.cells⟩
end
/-! ### for x in g(..) -/
def tForV (t : TGV) (g : TG) (tb : TS) : TS := fun D σ H => t σ H fun M q0 H1 => ∃ Pv : Nat → M.S → L2.St → Hp → Prop, Pv 0 q0 σ H1 ∧ ∀ i q σ H, Pv i q σ H → i ≤ M.n ∧ M.St i q H ∧ (i = M.n → ∀ H', Same H H' → D.nx σ H') ∧
  (i < M.n → ∀ x q' H', M.Y i q H x q' H' → g x σ H' fun σ2 H2 => tb { D with nx := Pv (i + 1) q', ct := Pv (i + 1) q', bk := D.nx } σ2 H2)
section
variable {X : Cx}
theorem ps_forV {tg iter : Expr} {body : List Stmt} {k : Nat} {t : TGV} {g : TG} {tb : TS} {pos : Pos} (hc : X.calm = true) (hG : X.A.guards = some []) (hr : Room (k + 1) X.A) (hi : PGen X iter k t) (hg : PG X.nox tg g) (hb : PSs X.nox body tb)
    (hs : ∀ x, foldedSetIterable iter X.env x = pure x := by intro _; rfl) : PS X (.For tg iter body [] pos) (tForV t g tb) := by
  refine ⟨fun pins s σ H D I h => ?_⟩
  refine wpAny_For (thn (hi.run pins s σ H _ I h) fun u s1 h1 => ?_) hs
  obtain ⟨a, n, c, pv, M, q0, H1, s0, rfl, I0, ⟨Pv, p0, turn⟩, V⟩ := h1
  obtain ⟨I1, G1, o1⟩ := gn_made (m := M.n + 1) (A := X.A.in1) I0 V hG hr.in1 I0.ok.frames
  refine wpAny_pyIter_gen G1.gen ?_
  have hroom := hr.depth
  refine codeAny_forLoop_any (fun m s' => ∃ i q pv' σ' H', m = M.n + 1 - i ∧ Inv X pins σ' H' s' ∧ Gn X X.A.in1 s0.heap.objs.size M (M.n + 1 - i) i q pv' a n s' ∧ GOff X pins H' pv' a ∧ Pv i q σ' H') ?_ (M.n + 1) ⟨0, q0, pv, σ, H1, rfl, I1, G1, o1, p0⟩
  rintro m s2 ⟨i, q, pv2, σ2, H2, rfl, I2, G2, o2, p2⟩
  obtain ⟨hile, hst, hend, hgo⟩ := turn i q σ2 H2 p2
  rw [show M.n + 1 - i = (M.n - i) + 1 by omega] at G2 ⊢
  refine wpAny_mono (vnext (E := fun _ _ => False) (I2.ok.hd hc) hroom I2.ok.frames I2 G2 o2 hst) (fun r s3 h3 => ?_) fun _ _ z => z.elim
  rcases h3 with ⟨rfl, ei, H3, sm, I3⟩ | ⟨v, x, q', pv3, H3, rfl, rv, hlt, hY, I3, G3, o3, k3, l3, c3, p3, fs3, cl3, es3⟩
  · exact wpAny_execs_nil ⟨σ2, H3, I3, hend ei H3 sm⟩
  · obtain ⟨go, nm, qn, eg, gc, gd, gsl⟩ := id G3.gen
    refine go_of eg gc gd (by decide) ?_
    have I4 : Inv X (pins ++ pinsAt (a :: pv3.map (·.1)) s3.heap) σ2 H3 s3 := I3.pinned (fun b hb => ?_) fun b hb => ?_
    rotate_left
    · rcases List.mem_cons.mp hb with e | e
      · rw [e]; exact o3.2
      · obtain ⟨p, hp, rfl⟩ := List.mem_map.mp e
        exact (o3.1 p hp).1
    · rcases List.mem_cons.mp hb with e | e
      · rw [e]; exact ⟨go, eg, fun v z => by rw [gd] at z; cases z⟩
      · obtain ⟨p, hp, rfl⟩ := List.mem_map.mp e
        exact ⟨p.2, (G3.pv p hp).1, (G3.pv p hp).2⟩
    have stay : ∀ {s4 : Shared} {σ4 : L2.St} {H4 : Hp}, Inv X (pins ++ pinsAt (a :: pv3.map (·.1)) s3.heap) σ4 H4 s4 → Keeps s3 s4 → Gn X X.A.in1 s0.heap.objs.size M (M.n - i) (i + 1) q' pv3 a n s4 ∧ GOff X pins H4 pv3 a := fun {s4 σ4 H4} I4 kp => by
      have at_ : ∀ b o, (b = a ∨ b ∈ pv3.map (·.1)) → s3.heap.get? b = some o → s4.heap.get? b = some o ∧ H4 b = none := fun b o hb e => by
        have := I4.pin (b, o) (List.mem_append_right _ (List.mem_append_right _ (mem_pinsAt (List.mem_cons.mpr hb) e)))
        exact ⟨this.1, this.2.1⟩
      refine ⟨G3.sus es3 kp fun b o hb e => (at_ b o hb e).1, fun p hp => ⟨⟨(at_ p.1 p.2 (.inr (List.mem_map.mpr ⟨p, hp, rfl⟩)) (G3.pv p hp).1).2, (o3.1 p hp).1.2⟩, (o3.1 p hp).2⟩, (at_ a go (.inl rfl) eg).2, o3.2.2⟩
    refine wpAny_mono (pg_lull (E := fun _ _ => False) hg I4 rv (hgo hlt x q' H3 hY)) (fun _ s4 h4 => ?_) fun _ _ z => z.elim
    obtain ⟨⟨σ4, H4, J4, q4⟩, kp4⟩ := h4
    refine wpAny_mono (pss_lull (E := fun _ _ => False) hb J4 q4) (fun f s5 h5 => ?_) fun _ _ z => z.elim
    obtain ⟨h5, kp5⟩ := h5
    have again : ∀ {σ5 : L2.St} {H5 : Hp}, Inv X (pins ++ pinsAt (a :: pv3.map (·.1)) s3.heap) σ5 H5 s5 → Pv (i + 1) q' σ5 H5 → ∃ m, m < M.n - i + 1 ∧ ∃ j q pv' σ' H', m = M.n + 1 - j ∧ Inv X pins σ' H' s5 ∧ Gn X X.A.in1 s0.heap.objs.size M (M.n + 1 - j) j q pv' a n s5 ∧ GOff X pins H' pv' a ∧ Pv j q σ' H' := fun {σ5 H5} J5 p5 => by
      obtain ⟨z1, z2⟩ := stay J5 (kp4.trans kp5)
      refine ⟨M.n + 1 - (i + 1), by omega, i + 1, q', pv3, σ5, H5, rfl, J5.unpinned, ?_, z2, p5⟩
      rw [show M.n + 1 - (i + 1) = M.n - i by omega]
      exact z1
    cases f with
    | next => obtain ⟨σ5, H5, J5, q5⟩ := h5; exact again J5 q5
    | cont => obtain ⟨σ5, H5, J5, q5⟩ := h5; exact again J5 q5
    | brk => obtain ⟨σ5, H5, J5, q5⟩ := h5; exact ⟨σ5, H5, J5.unpinned, q5⟩
    | ret v5 => obtain ⟨x5, σ5, H5, J5, r5, q5⟩ := h5; exact ⟨x5, σ5, H5, J5.unpinned, r5, q5⟩
end
end Xk

set_option Elab.async false
set_option linter.all false
set_option maxRecDepth 100000
set_option maxHeartbeats 20000000
namespace Xk
open PySem PySem.Spec PyProof.Rows L2 GenW
/-! ### list(g(..)) -/
def tListV (t : TGV) : TE := fun σ H Q => t σ H fun M q0 H1 => M.n < sizeLine ∧ ∃ Pv : Nat → M.S → List V → Hp → Prop, Pv 0 q0 [] H1 ∧ ∀ i q ys H, Pv i q ys H → i ≤ M.n ∧ ys.length = i ∧ M.St i q H ∧
  (i = M.n → ∀ H' p, Same H H' → H' p = none → Q (.ref p) (upd H' p (.lst ys))) ∧ (i < M.n → ∀ x q' H', M.Y i q H x q' H' → Pv (i + 1) q' (ys ++ [x]) H')
section
variable {X : Cx} {pins : List (Addr × Obj)} {σ : L2.St}
/-- the list becomes known -/
theorem list_known {H : Hp} {s : Shared} {S : Addr} {ys : List V} {acc : Array Value} {c : Nat} (I : Inv X pins σ H s) (f : FpOk X pins H S) (hS : s.heap.get? S = some (lstObj acc c)) (rv : Vals ys acc.toList) (hl : ys.length ≤ sizeLine) : Inv X pins σ (upd H S (.lst ys)) s := by
  have hn : H S = none := f.1
  refine I.call' (ch := [S]) rfl ⟨fun b o q _ _ _ => q, fun b o q _ _ _ => ⟨o.slots, q⟩, fun b o q n hb => ?_, fun b o q _ => ⟨o, q⟩, fun b xs q => ?_, fun b o y q => ?_, fun b qs q => ⟨#[], ?_⟩⟩ (fun b u q => ?_) I.bare (fun b hb => ?_)
  · rw [upd_ne fun q => hb (by rw [q]; exact List.mem_singleton.mpr rfl)]; exact n
  · rw [upd_ne (ne_of_none q hn)]; exact q
  · rw [upd_ne (ne_of_none q hn)]; exact q
  · rw [upd_ne (ne_of_none q hn), q]; simp
  · by_cases hb : b = S
    · subst hb
      rw [upd_same] at q
      cases q
      exact ⟨hl, acc.toList, c, rv, by rw [hS]⟩
    · rw [upd_ne hb] at q
      exact (I.hok b u q).stay (fun _ _ _ z => z) (fun d z => by rw [upd_ne (ne_of_none z hn)]; exact z) fun d xs z => by rw [upd_ne (ne_of_none z hn)]; exact z
  · rw [List.mem_singleton.mp hb]
    exact ⟨f.2.2.2.1, f.2.1, f.2.2.2.2.1, f.2.2.2.2.2⟩
theorem drain_v {A : Around} {R : Result → Shared → Prop} {S a : Addr} {n n0 : Nat} {M : Mach} {res : Value} {Pv : Nat → M.S → List V → Hp → Prop} (hh : A.handled = none) (hd : A.in1.depth < recursionLimit) (hf : A.frames = some X.stack) (hz : M.n < sizeLine)
    (hP : ∀ i q ys H, Pv i q ys H → i ≤ M.n ∧ ys.length = i ∧ M.St i q H ∧ (i < M.n → ∀ x q' H', M.Y i q H x q' H' → Pv (i + 1) q' (ys ++ [x]) H'))
    (hend : ∀ (s : Shared) (H H' : Hp) (q : M.S) (ys : List V) (acc : Array Value) (c : Nat), Pv M.n q ys H → Same H H' → Inv X pins σ H' s → FpOk X pins H' S → s.heap.get? S = some (lstObj acc c) → Vals ys acc.toList → R (.ok (.ret res)) s) :
    ∀ (r i : Nat) (q : M.S) (pv : List (Addr × Obj)) (ys : List V) (s : Shared) (H : Hp) (acc : Array Value) (c : Nat), i + r = M.n → Inv X pins σ H s → FpOk X pins H S → Gn X A.in1.in1 n0 M (r + 1) i q pv a n s → GOff X pins H pv a → S ≠ a → (∀ p ∈ pv, p.1 ≠ S) →
      s.heap.get? S = some (lstObj acc c) → Vals ys acc.toList → Pv i q ys H → codeAny (model X.prog X.w) A (.builtin "list.extend.loop" ⟨[.ref S, .ref a, res], []⟩) R s := by
  intro r
  induction r with
  | zero =>
    intro i q pv ys s H acc c hr I fS G off hSa hSp hS rv p
    obtain ⟨_, _, hst, _⟩ := hP i q ys H p
    refine codeAny_builtin PySem.F.entry_extend_loop ?_
    rw [Around.under_plainId PySem.F.plain_extend_loop _]
    show wpAny _ A.in1 (pyNext (.ref a) >>= _) _ _ s
    have I' : Inv X (pins ++ [(S, lstObj acc c)]) σ H s := I.pins_of fun p hp => (List.mem_append.mp hp).elim (fun z => I.pin p (List.mem_append_right _ z)) fun z => by
      rw [List.mem_singleton.mp z]; exact ⟨hS, fS.1, fS.2.1, fS.2.2.1, fun v q => by cases q⟩
    have up : ∀ b, b ≠ S → FpOk X pins H b → FpOk X (pins ++ [(S, lstObj acc c)]) H b := fun b hb f => ⟨f.1, f.2.1, f.2.2.1, f.2.2.2.1, f.2.2.2.2.1, fun p hp => by
      rcases List.mem_append.mp hp with z | z
      · exact f.2.2.2.2.2 p (List.mem_append_left _ z)
      · rcases List.mem_append.mp z with z | z
        · exact f.2.2.2.2.2 p (List.mem_append_right _ z)
        · rw [List.mem_singleton.mp z]; exact Ne.symm hb⟩
    refine wpAny_bind (wpAny_mono (vnext (E := fun _ _ => False) hh hd hf I' G ⟨fun p hp => ⟨up _ (hSp p hp) (off.1 p hp).1, (off.1 p hp).2⟩, up _ (Ne.symm hSa) off.2⟩ hst) (fun r' s3 h3 => ?_) fun _ _ z => z.elim)
    rcases h3 with ⟨rfl, ei, H3, sm, I3⟩ | ⟨v, x, q', pv3, H3, rfl, rvx, hlt, hY, I3, G3, o3, _⟩
    · have pS := I3.pin (S, lstObj acc c) (List.mem_append_right _ (List.mem_append_right _ (List.mem_singleton.mpr rfl)))
      subst ei
      exact wpAny_pure (hend s3 H H3 q ys acc c p sm I3.unpinned ⟨pS.2.1, fS.2⟩ pS.1 rv)
    · exact absurd hlt (by omega)
  | succ r ih =>
    intro i q pv ys s H acc c hr I fS G off hSa hSp hS rv p
    obtain ⟨_, hyl, hst, hgo⟩ := hP i q ys H p
    refine codeAny_builtin PySem.F.entry_extend_loop ?_
    rw [Around.under_plainId PySem.F.plain_extend_loop _]
    show wpAny _ A.in1 (pyNext (.ref a) >>= _) _ _ s
    have I' : Inv X (pins ++ [(S, lstObj acc c)]) σ H s := I.pins_of fun p hp => (List.mem_append.mp hp).elim (fun z => I.pin p (List.mem_append_right _ z)) fun z => by
      rw [List.mem_singleton.mp z]; exact ⟨hS, fS.1, fS.2.1, fS.2.2.1, fun v q => by cases q⟩
    have up : ∀ b, b ≠ S → FpOk X pins H b → FpOk X (pins ++ [(S, lstObj acc c)]) H b := fun b hb f => ⟨f.1, f.2.1, f.2.2.1, f.2.2.2.1, f.2.2.2.2.1, fun p hp => by
      rcases List.mem_append.mp hp with z | z
      · exact f.2.2.2.2.2 p (List.mem_append_left _ z)
      · rcases List.mem_append.mp z with z | z
        · exact f.2.2.2.2.2 p (List.mem_append_right _ z)
        · rw [List.mem_singleton.mp z]; exact Ne.symm hb⟩
    have down : ∀ {H b}, FpOk X (pins ++ [(S, lstObj acc c)]) H b → FpOk X pins H b ∧ b ≠ S := fun {H b} f => ⟨⟨f.1, f.2.1, f.2.2.1, f.2.2.2.1, f.2.2.2.2.1, fun p hp => f.2.2.2.2.2 p (by
        rcases List.mem_append.mp hp with z | z
        · exact List.mem_append_left _ z
        · exact List.mem_append_right _ (List.mem_append_left _ z))⟩, fun e => f.2.2.2.2.2 (S, lstObj acc c) (List.mem_append_right _ (List.mem_append_right _ (List.mem_singleton.mpr rfl))) e.symm⟩
    refine wpAny_bind (wpAny_mono (vnext (E := fun _ _ => False) hh hd hf I' G ⟨fun p hp => ⟨up _ (hSp p hp) (off.1 p hp).1, (off.1 p hp).2⟩, up _ (Ne.symm hSa) off.2⟩ hst) (fun r' s3 h3 => ?_) fun _ _ z => z.elim)
    rcases h3 with ⟨rfl, ei, H3, sm, I3⟩ | ⟨v, x, q', pv3, H3, rfl, rvx, hlt, hY, I3, G3, o3, k3, l3, c3, p3, fs3, cl3, es3⟩
    · exact absurd ei (by omega)
    · have pS := I3.pin (S, lstObj acc c) (List.mem_append_right _ (List.mem_append_right _ (List.mem_singleton.mpr rfl)))
      have hS3 : s3.heap.get? S = some (lstObj acc c) := pS.1
      have fS3 : FpOk X pins H3 S := ⟨pS.2.1, fS.2⟩
      have hasz : acc.size = i := by
        have := rv.length
        rw [hyl] at this
        simpa using this.symm
      show wpAny _ A.in1 (updateSeq S (·.push v) >>= _) _ _ _
      refine wpAny_bind ?_
      refine wpAny_updateSeq hS3 rfl (wpAny_pure ⟨plainId_quiet PySem.F.plain_extend_loop _, ?_⟩) (by omega) (by show (acc.push _).size ≤ sizeLine + 1; rw [Array.size_push]; omega)
      have kp : ∀ b o, b ≠ S → s3.heap.get? b = some o → (s3.heap.update S (Obj.mapSeq (·.push v))).get? b = some o := fun b o hb e => (Heap.get?_update_other _ _ (Ne.symm hb)).trans e
      have I4 : Inv X pins σ H3 { s3 with heap := s3.heap.update S (Obj.mapSeq (·.push v)) } := I3.unpinned.turnedL (t' := s3.toks) (ch := [S]) (fun b o hb e => kp b o (fun z => hb (by rw [z]; exact List.mem_singleton.mpr rfl)) e) fun b hb => by rw [List.mem_singleton.mp hb]; exact fS3
      have offp : ∀ p ∈ pv3, FpOk X pins H3 p.1 ∧ p.1 ≠ S := fun p hp => down (o3.1 p hp).1
      have offa := down o3.2
      refine ih (i + 1) q' pv3 (ys ++ [x]) _ H3 (acc.push v) _ (by omega) I4 fS3 ?_ ⟨fun p hp => ⟨(offp p hp).1, (o3.1 p hp).2⟩, offa.1⟩ hSa (fun p hp => (offp p hp).2) (Heap.get?_update_self _ hS3 rfl) ?_ (hgo hlt x q' H3 hY)
      · refine G3.sus es3 (fun i k l c p fs cl e => e) fun b o hb e => kp b o (fun z => ?_) e
        rcases hb with y | y
        · exact hSa (z.symm.trans y)
        · obtain ⟨p, hp, e2⟩ := List.mem_map.mp y
          exact (offp p hp).2 (e2.trans z)
      · rw [Array.toList_push]
        exact rv.append (.cons rvx .nil)
theorem pe_listV {e : Expr} {k : Nat} {t : TGV} {nm : Str} {p2 pos : Pos} (hc : X.calm = true) (hG : X.A.guards = some []) (hr : Room (k + 3) X.A) (hi : PGen X e k t) (hl : Gl X nm) (hn : X.mg nm = none) (hv : bootBuiltins nm = some (.type "list")) (hnm : nm ≠ "__name__" := by decide) (hd2 : (nm == ("__debug__" : Str)) = false := by decide)
    (he2 : starEach [e] X.env = (false, eval e X.env) :: starEach [] X.env := by rfl) : PE X (.Call (.Name nm p2) [e] [] pos) (tListV t) := by
  refine ⟨fun pins s σ H Q I z => wpAny_Call_Name_kw (ld_blt I hl hn hv (PyProof.Rows.callWith_type1 ?_ he2 rfl) hnm hd2)⟩
  rw [he2]
  show wpAny _ _ (spliced ((false, eval e X.env) :: backTo pos (starEach [] X.env))) _ _ s
  refine Calls.spliced_cons ?_
  refine thn (hi.run pins s σ H _ I z) fun u s1 h1 => Calls.spliced_nil ?_
  obtain ⟨a, n, c, pv, M, q0, H1, s0, rfl, I0, ⟨hz, Pv, p0, turn⟩, V⟩ := h1
  obtain ⟨I1, G1, o1⟩ := gn_made (m := M.n + 1) (A := X.A.in1.in1.in1) I0 V hG hr.in1.in1.in1 I0.ok.frames
  have hroom := hr.depth
  obtain ⟨S, eS⟩ : ∃ S, S = s1.heap.objs.size := ⟨_, rfl⟩
  obtain ⟨lo, elo⟩ : ∃ lo : Obj, lo = { cls := .type "list", data := .seq #[] } := ⟨_, rfl⟩
  obtain ⟨go, nm1, qn, eg, gc, gd, gsl⟩ := id G1.gen
  have SA : S ≠ a := by rw [eS]; exact Nat.ne_of_gt (Heap.lt_size eg)
  have SP : ∀ p ∈ pv, p.1 ≠ S := fun p hp => by rw [eS]; exact Nat.ne_of_lt (Heap.lt_size (G1.pv p hp).1)
  refine callType_codes (Q₁ := fun x t2 => x = .ref S ∧ t2 = { s1 with heap := s1.heap.push lo }) PySem.F.called_list (PySem.F.typeCall_list_1 _) PySem.F.entry_list_init (code_list_new _ (by rw [eS, elo]; exact ⟨rfl, rfl⟩)) fun x t2 hx => ?_
  obtain ⟨rfl, rfl⟩ := hx
  have g0 : (s1.heap.push lo).get? S = some lo := by rw [eS]; exact Heap.get?_push_size _ (by rw [elo]; rfl)
  refine ⟨⟨lo, g0, by rw [elo]⟩, PySem.F.args_list_init_2 _ _, ?_⟩
  have k0 : ∀ b o, s1.heap.get? b = some o → (s1.heap.push lo).get? b = some o := fun b o e => Heap.get?_push_of_some _ e
  have step : ∀ (hp : Heap) (f : Obj → Obj), (∀ b o, s1.heap.get? b = some o → hp.get? b = some o) → ∀ b o, s1.heap.get? b = some o → (hp.update S f).get? b = some o := fun hp f q b o e =>
    (Heap.get?_update_other _ _ (by rw [eS]; exact Nat.ne_of_gt (Heap.lt_size e))).trans (q b o e)
  have isG : ∀ {t2 : Shared}, (∀ b o, s1.heap.get? b = some o → t2.heap.get? b = some o) → t2.heap.IsGen a n := fun q => G1.gen.keeps q
  show wpAny _ _ (Builtin.List.listItems (.ref S) >>= fun old => Builtin.List.listUpdate (.ref S) (fun _ => #[]) >>= fun _ => letGo old.toList.reverse >>= fun _ => Builtin.List.listExtendWith (.ref S) (.ref a) .none) _ _ _
  have d0 : lo.data = .seq #[] := by rw [elo]
  unfold Builtin.List.listItems
  refine wpAny_bind (wpAny_bind (wpAny_seqItems g0 d0 (wpAny_pure (wpAny_bind ?_))))
  show wpAny _ _ (updateSeq S fun _ => #[]) _ _ _
  refine wpAny_updateSeq g0 d0 (wpAny_bind (wpAny_letGo ?_))
  have g1 := Heap.get?_update_self (Obj.mapSeq fun _ => (#[] : Array Value)) g0 (by rw [elo]; rfl)
  have k1 := step _ (Obj.mapSeq fun _ => (#[] : Array Value)) k0
  have d1 : (lo.mapSeq fun _ => (#[] : Array Value)).data = .seq #[] := by rw [elo]; rfl
  unfold Builtin.List.listExtendWith
  refine wpAny_bind (wpAny_typeOf (Heap.IsGen.typeIs (s := { s1 with heap := _ }) (isG k1)) ?_)
  rw [if_neg (by show ¬ ((Builtin.List.listSameRef (.ref S) (.ref a) || Value.type "generator" == Value.type "list") || Value.type "generator" == Value.type "tuple") = true; simp [Builtin.List.listSameRef, SA])]
  refine wpAny_bind (wpAny_pyIter_gen (s := { s1 with heap := _ }) (isG k1) (wpAny_bind (wpAny_holding ?_)))
  unfold Builtin.List.listLengthHint
  refine wpAny_bind (wpAny_specialOf (Heap.IsGen.typeIs (s := { s1 with heap := _ }) (isG k1)) PySem.F.gen_no_len ?_)
  refine wpAny_bind (m := specialOf (.ref a) (Str.ofString "__length_hint__")) (wpAny_specialOf (Heap.IsGen.typeIs (s := { s1 with heap := _ }) (isG k1)) PySem.F.gen_no_hint (wpAny_pure (wpAny_bind (m := rule "list.extend.makes-room") (wpAny_rule (wpAny_bind (m := Builtin.List.listTouch (.ref S)) ?_)))))
  have u2 := Heap.get?_update_self (Obj.mapSeq (·.push Value.none)) g1 (by rw [elo]; rfl)
  show wpAny _ _ (updateSeq S (·.push .none) >>= fun _ => updateSeq S (·.pop)) _ _ _
  refine wpAny_bind (wpAny_updateSeq g1 d1 (wpAny_updateSeq (hz := by seq_fits) u2 (by rw [elo]; rfl) (wpAny_pure ⟨plainId_quiet PySem.F.plain_extend_loop _, ?_⟩)))
  have k2 := step _ (Obj.mapSeq (·.pop)) (step _ (Obj.mapSeq (·.push Value.none)) k1)
  have g2 := Heap.get?_update_self (Obj.mapSeq (·.pop)) u2 (by rw [elo]; rfl)
  have g3 : ∃ c, (((s1.heap.push lo).update S (Obj.mapSeq fun _ => (#[] : Array Value))).update S (Obj.mapSeq (·.push Value.none)) |>.update S (Obj.mapSeq (·.pop))).get? S = some (lstObj #[] c) := by
    rw [elo] at g2 ⊢
    exact ⟨_, g2⟩
  obtain ⟨c2, g3⟩ := g3
  have key : ∀ (h : Heap) (c : Nat), (∀ b o, s1.heap.get? b = some o → h.get? b = some o) → h.get? S = some (lstObj #[] c) →
      codeAny (model X.prog X.w) X.A.in1 (.builtin "list.extend.loop" ⟨[.ref S, .ref a, .none], []⟩) (wants (fun r s₂ => r = Value.none ∧ EP X pins σ Q (Value.ref S) s₂) X.xe) { s1 with heap := h } := by
    intro h c hk hS
    have I2 : Inv X pins σ H1 { s1 with heap := h } := I1.kept (t' := s1.toks) hk
    have fS : FpOk X pins H1 S := I1.fpOk (by rw [eS]; exact Nat.le_refl _) (I1.hok.fresh (by rw [eS]; exact Nat.le_refl _))
    refine drain_v (A := X.A.in1) (S := S) (a := a) (n := n) (n0 := s0.heap.objs.size) (M := M) (Pv := Pv) (I2.ok.hd hc) hroom I2.ok.frames hz (fun i q ys H p => ?_) (fun s4 H4 H5 q ys acc c4 p4 sm I4 f4 hS4 rv4 => ?_) M.n 0 q0 pv [] _ H1 #[] c (Nat.zero_add _) I2 fS ?_ o1 SA SP hS .nil p0
    · obtain ⟨z1, z2, z3, z4, z5⟩ := turn i q ys H p
      exact ⟨z1, z2, z3, z5⟩
    · obtain ⟨z1, z2, z3, z4, z5⟩ := turn M.n q ys H4 p4
      exact ⟨rfl, .ref S, upd H5 S (.lst ys), list_known I4 f4 hS4 rv4 (by omega), rfl, z4 rfl H5 S sm f4.1⟩
    · obtain ⟨gs, y1, y2, y3⟩ := G1.gs
      exact ⟨isG (t2 := { s1 with heap := h }) hk, ⟨gs, y1, y2, y3⟩, fun p hp => ⟨hk _ _ (G1.pv p hp).1, (G1.pv p hp).2⟩, G1.low, G1.cells⟩
  exact key _ _ k2 g3
end
end Xk

set_option Elab.async false
set_option linter.all false
set_option maxRecDepth 100000
set_option maxHeartbeats 20000000
namespace Xk
open PySem PySem.Spec PyProof.Rows L2 GenW
section
variable {X : Cx}
/-- g(k=e, ..) -/
theorem pgen_callK0 {k : Nat} {f : Addr} {fd : FuncData} {ps ks : List Str} {sp : SpV} {x : Str} {p pos : Pos} {kws : List Keyword} {tk : TA} {ff : List Value → List Value → List Value} {fV : List V → List V → List V} (F : GFnV X.prog X.w X.K X.mg X.base k f fd ps sp) (hr : Room k X.A) (hg : Gl X x) (hm : X.mg x = some (.ref f)) (hk : PySem.W.keepIn X.K (.ref f) = true) (bi : KBinds X.K fd ps ks ff fV)
    (hkw : PK X kws tk) (hdb : (x == ("__debug__" : Str)) = false := by decide)
    (all' : (backToKw pos (keywordEach kws X.env)).all (·.1.isSome) = true := by rfl) (nms : (backToKw pos (keywordEach kws X.env)).filterMap (·.1) = ks := by rfl)
    (hpl : ((backTo pos (starEach [] X.env)).any (·.1) || (backToKw pos (keywordEach kws X.env)).any (·.1.isNone)) = false := by rfl) :
    PGen X (.Call (.Name x p) [] kws pos) k (tCallV (fun vs H C => sp (fV [] vs) H C) tk) := by
  subst nms
  refine ⟨fun pins s σ H C I z => wpAny_Call_Name_kw (ld_glob I hg hm (PySem.W.callWith_KW0 (h₀ := X.base) I.ok.mod.kin hk all' (thn (hkw.run pos pins s σ H _ I z) fun ws s1 ⟨zs, H1, J, rz, q⟩ => ⟨J.kIn, ?_⟩) hpl) hdb)⟩
  have r2 := bi.rel .nil rz
  have bd := bi.to s1 [] ws J.kIn (by rw [← r2.length]; exact F.cnt _ _ _ q)
  refine wpAny_call (codeAny_mono (F.go X.A X.stack s1 H1 _ _ _ _ hr J.env0 bd r2 q) fun r s2 y => ?_)
  obtain ⟨a, n, c, pv, M, q0, rfl, hC, V⟩ := y
  exact ⟨a, n, c, pv, M, q0, H1, s1, rfl, J, hC, V⟩
/-- by either of two ways -/
def tEitherS (t u : TS) : TS := fun D σ H => t D σ H ∨ u D σ H
theorem ps_either {st : Stmt} {t u : TS} (a : PS X st t) (b : PS X st u) : PS X st (tEitherS t u) := ⟨fun pins s σ H D I z => z.elim (a.run pins s σ H D I) (b.run pins s σ H D I)⟩
/-- for x in g(..), which raises at its first item -/
def tForX (K : PySem.W.Frag) (sp : SpX) (W : WX) (t : TA) : TS := fun D σ H => t σ H fun vs H1 => sp vs H1 fun cls d H' => NoSt K cls ∧ W cls d σ H'
theorem ps_forX {W : WX} {k : Nat} {f : Addr} {fd : FuncData} {ps : List Str} {sp : SpX} {x : Str} {p pos pos' : Pos} {e : Expr} {es : List Expr} {t : TA} {tg : Expr} {body : List Stmt} (F : GFnX X.prog X.w X.K X.mg X.base k f fd ps sp) (hpo : PassesOwn (model X.prog X.w) X.A X.env X.xe) (hG : X.A.guards = some []) (hr : Room (k + 1) X.A) (hg : Gl X x) (hm : X.mg x = some (.ref f)) (hk : PySem.W.keepIn X.K (.ref f) = true) (hb : Binds X.K fd ps []) (tk : L2N.Takes X W)
    (ha : PA X (e :: es) t) (hd1 : (x == ("__debug__" : Str)) = false := by decide) (he : starEach (e :: es) X.env = (false, eval e X.env) :: starEach es X.env := by rfl) (hpl : (backTo pos' (starEach es X.env)).any (·.1) = false := by rfl)
    (hs : ∀ y, foldedSetIterable (.Call (.Name x p) (e :: es) [] pos') X.env y = pure y := by intro _; rfl) : PS X (.For tg (.Call (.Name x p) (e :: es) [] pos') body [] pos) (tForX X.K sp W t) := by
  refine ⟨fun pins s σ H D I z => ?_⟩
  refine wpAny_For (thn (Q := fun u s1 => ∃ H1 sc, Inv X pins σ H1 sc ∧ ∃ E : XK, (∀ c d H', E c d H' → NoSt X.K c ∧ W c d σ H') ∧ GMadeX X.prog X.w k X.stack H1 sc E u s1) (wpAny_Call_Name_kw (ld_glob I hg hm ?_ hd1)) fun u s1 ⟨H1, sc, J, E, hE, a, n, c, eu, M⟩ => ?_) hs
  · refine PySem.W.callWith_K (h₀ := X.base) I.ok.mod.kin hk (thn (ha.run pos' pins s σ H _ I z) fun us s1 ⟨vs, H1, J, r, q⟩ => ⟨J.kIn, ?_⟩) he hpl
    have hlen : us.length = ps.length := r.length ▸ F.cnt _ _ _ q
    have bd := hb s1 us J.kIn (by rw [List.append_nil]; exact hlen)
    rw [List.append_nil] at bd
    refine wpAny_call (codeAny_mono (F.go X.A X.stack s1 H1 ⟨us, []⟩ us vs _ (hr.mono (by omega)) J.env0 bd r q) fun r s2 y => ?_)
    match r, y with
    | .ok (.ret u), y => exact ⟨H1, s1, J, _, fun c d H' h => h, y⟩
    | .error _, y => exact y.elim
    | .ok .next, y => exact y.elim
    | .ok .brk, y => exact y.elim
    | .ok .cont, y => exact y.elim
  · subst eu
    refine wpAny_pyIter_gen M.gen ?_
    refine codeAny_forLoop_any (fun m s' => s' = s1) ?_ 0 rfl
    rintro m s2 rfl
    refine wpAny_passesOwn hpo (M.next hr hG J.ok.frames (fun _ _ h => h) rfl rfl fun e2 s2 y => ?_)
    exact ⟨notStopN (fun c d H' h => (hE c d H' h).1) (stays_in J y) y, tk _ _ (L2N.XE.of_call J (fun c d H' h => (hE c d H' h).2) (cx_fin y))⟩
end
section
variable {U : Type} {D : VEnds U} {u : U} {σ : L2.St} {H : Hp}
theorem r_vthen {t v : TV U} (h : t ⟨fun u' σ' H' => v D u' σ' H', D.rt, D.bk, D.ct, D.yl⟩ u σ H) : tVThen t v D u σ H := h
theorem r_vplain {t : TS} (h : t ⟨D.nx u, D.rt u, D.bk u, D.ct u⟩ σ H) : tPlainV t D u σ H := h
theorem r_v0 (h : D.nx u σ H) : tV0 D u σ H := h
theorem r_vyield {te : TE} (h : te σ H fun x H1 => D.yl u x H1 fun u' H2 => D.nx u' σ H2) : tVYield te D u σ H := h
theorem r_vif {tc : TT} {t v : TV U} (h : tc σ H fun d H1 => if d = true then t D u σ H1 else v D u σ H1) : tVIf tc t v D u σ H := h
theorem r_vfor {wi : TI} {g : TG} {tb : TV U} (h : wi σ H fun J H1 => ∃ W : Nat → Nat → U → L2.St → Hp → Prop, (∃ m, W 0 m u σ H1) ∧ ∀ i m u σ H, W i m u σ H →
  (J.stop i H ∧ D.nx u σ H) ∨ (J.go i H ∧ ∃ N : U → L2.St → Hp → Prop, (∀ u' σ' H', N u' σ' H' → ∃ m', m' < m ∧ W (i + 1) m' u' σ' H') ∧ ∀ x H', J.yld i H x H' → g x σ H' fun σ2 H2 => tb ⟨N, D.rt, D.nx, N, D.yl⟩ u σ2 H2)) : tVFor wi g tb D u σ H := h
/-- a generator's turns over what is walked -/
theorem vforI {J : It} {n : Nat} {G : Hp → Prop} {Y : Nat → Hp → V → Hp → Prop} (w : Walk J n G Y) {g : TG} {tb : TV U} {nx : U → L2.St → Hp → Prop} {rt : U → VK} {yl : U → V → Hp → (U → Hp → Prop) → Prop} (Pv : Nat → U → L2.St → Hp → Prop) (h0 : Pv 0 u σ H) (hG : ∀ i u σ H, i ≤ n → Pv i u σ H → G H)
    (hs : ∀ i x u σ H H', i < n → Pv i u σ H → Y i H x H' → g x σ H' fun σ2 H2 => tb ⟨Pv (i + 1), rt, nx, Pv (i + 1), yl⟩ u σ2 H2) (hd : ∀ u σ H, Pv n u σ H → nx u σ H) :
    ∃ W : Nat → Nat → U → L2.St → Hp → Prop, (∃ m, W 0 m u σ H) ∧ ∀ i m u σ H, W i m u σ H →
      (J.stop i H ∧ nx u σ H) ∨ (J.go i H ∧ ∃ N : U → L2.St → Hp → Prop, (∀ u' σ' H', N u' σ' H' → ∃ m', m' < m ∧ W (i + 1) m' u' σ' H') ∧ ∀ x H', J.yld i H x H' → g x σ H' fun σ2 H2 => tb ⟨N, rt, nx, N, yl⟩ u σ2 H2) := by
  refine ⟨fun i m u σ H => i + m = n ∧ Pv i u σ H, ⟨n, Nat.zero_add n, h0⟩, fun i m u σ H ⟨e, p⟩ => ?_⟩
  cases m with
  | zero =>
    have e' : i = n := e
    subst e'
    exact .inl ⟨w.stops _ (hG _ u σ H (Nat.le_refl _) p), hd _ _ _ p⟩
  | succ m =>
    refine .inr ⟨w.goes i H (by omega) (hG i u σ H (by omega) p), Pv (i + 1), fun u' σ' H' q => ⟨m, Nat.lt_succ_self m, by omega, q⟩, fun x H' y => ?_⟩
    exact hs i x u σ H H' (by omega) p (w.yields i H x H' (by omega) (hG i u σ H (by omega) p) y)
theorem vforA {J : It} {G : Hp → Prop} {xs : List V} (w : Walk J xs.length G (YAt xs)) {g : TG} {tb : TV U} {nx : U → L2.St → Hp → Prop} {rt : U → VK} {yl : U → V → Hp → (U → Hp → Prop) → Prop} (Pv : Nat → U → L2.St → Hp → Prop) (h0 : Pv 0 u σ H) (hG : ∀ i u σ H, i ≤ xs.length → Pv i u σ H → G H)
    (hs : ∀ i u σ H (hi : i < xs.length), Pv i u σ H → g xs[i] σ H fun σ2 H2 => tb ⟨Pv (i + 1), rt, nx, Pv (i + 1), yl⟩ u σ2 H2) (hd : ∀ u σ H, Pv xs.length u σ H → nx u σ H) :
    ∃ W : Nat → Nat → U → L2.St → Hp → Prop, (∃ m, W 0 m u σ H) ∧ ∀ i m u σ H, W i m u σ H →
      (J.stop i H ∧ nx u σ H) ∨ (J.go i H ∧ ∃ N : U → L2.St → Hp → Prop, (∀ u' σ' H', N u' σ' H' → ∃ m', m' < m ∧ W (i + 1) m' u' σ' H') ∧ ∀ x H', J.yld i H x H' → g x σ H' fun σ2 H2 => tb ⟨N, rt, nx, N, yl⟩ u σ2 H2) :=
  vforI w Pv h0 hG (fun i x u σ H H' hi p y => by
    obtain ⟨rfl, e⟩ := y
    rw [List.getElem?_eq_getElem hi] at e
    cases e
    exact hs i u σ H' hi p) hd
end
section
variable {K : PySem.W.Frag} {D : Ends} {σ : L2.St} {H : Hp} {Q : VK} {t : TGV} {sp : SpX} {W : WX} {ta : TA} {spv : SpV} {C : (M : Mach) → M.S → Hp → Prop}
theorem r_forX (h : ta σ H fun vs H1 => sp vs H1 fun cls d H' => NoSt K cls ∧ W cls d σ H') : tForX K sp W ta D σ H := h
theorem r_forV {g : TG} {tb : TS} (h : t σ H fun M q0 H1 => ∃ Pv : Nat → M.S → L2.St → Hp → Prop, Pv 0 q0 σ H1 ∧ ∀ i q σ H, Pv i q σ H → i ≤ M.n ∧ M.St i q H ∧ (i = M.n → ∀ H', Same H H' → D.nx σ H') ∧
  (i < M.n → ∀ x q' H', M.Y i q H x q' H' → g x σ H' fun σ2 H2 => tb ⟨Pv (i + 1) q', D.rt, D.nx, Pv (i + 1) q'⟩ σ2 H2)) : tForV t g tb D σ H := h
theorem r_listV (h : t σ H fun M q0 H1 => M.n < sizeLine ∧ ∃ Pv : Nat → M.S → List V → Hp → Prop, Pv 0 q0 [] H1 ∧ ∀ i q ys H, Pv i q ys H → i ≤ M.n ∧ ys.length = i ∧ M.St i q H ∧
  (i = M.n → ∀ H' p, Same H H' → H' p = none → Q (.ref p) (upd H' p (.lst ys))) ∧ (i < M.n → ∀ x q' H', M.Y i q H x q' H' → Pv (i + 1) q' (ys ++ [x]) H')) : tListV t σ H Q := h
theorem r_callV (h : ta σ H fun vs H1 => spv vs H1 fun M q0 => C M q0 H1) : tCallV spv ta σ H C := h
end
section
variable {X : Cx} {W : WX} {k : Nat} {f : Addr} {fd : FuncData} {ps : List Str} {sp : SpX} {x nm : Str} {p p2 pos pos' : Pos} {e : Expr} {es : List Expr} {t : TA} {tg : Expr} {body : List Stmt}
theorem pe_listXK (K : PySem.W.Frag) (F : GFnX X.prog X.w X.K X.mg X.base k f fd ps sp) (hG : X.A.guards = some []) (hr : Room (k + 3) X.A) (hg : Gl X x) (hm : X.mg x = some (.ref f)) (hk : PySem.W.keepIn X.K (.ref f) = true) (hb : Binds X.K fd ps []) (tk : L2N.Takes X W)
    (ha : PA X (e :: es) t) (hl : Gl X nm) (hn : X.mg nm = none) (hv : bootBuiltins nm = some (.type "list")) (hK : X.K = K := by rfl) (hnm : nm ≠ "__name__" := by decide) (hd1 : (x == ("__debug__" : Str)) = false := by decide) (hd2 : (nm == ("__debug__" : Str)) = false := by decide)
    (he : starEach (e :: es) X.env = (false, eval e X.env) :: starEach es X.env := by rfl) (hpl : (backTo pos' (starEach es X.env)).any (·.1) = false := by rfl)
    (he2 : starEach [.Call (.Name x p) (e :: es) [] pos'] X.env = (false, eval (.Call (.Name x p) (e :: es) [] pos') X.env) :: starEach [] X.env := by rfl) :
    PE X (.Call (.Name nm p2) [.Call (.Name x p) (e :: es) [] pos'] [] pos) (tListX K sp W t) := hK ▸ pe_listX F hG hr hg hm hk hb tk ha hl hn hv hnm hd1 hd2 he hpl he2
theorem ps_forXK (K : PySem.W.Frag) (F : GFnX X.prog X.w X.K X.mg X.base k f fd ps sp) (hpo : PassesOwn (model X.prog X.w) X.A X.env X.xe) (hG : X.A.guards = some []) (hr : Room (k + 1) X.A) (hg : Gl X x) (hm : X.mg x = some (.ref f)) (hk : PySem.W.keepIn X.K (.ref f) = true) (hb : Binds X.K fd ps []) (tk : L2N.Takes X W)
    (ha : PA X (e :: es) t) (hK : X.K = K := by rfl) (hd1 : (x == ("__debug__" : Str)) = false := by decide) (he : starEach (e :: es) X.env = (false, eval e X.env) :: starEach es X.env := by rfl) (hpl : (backTo pos' (starEach es X.env)).any (·.1) = false := by rfl)
    (hs : ∀ y, foldedSetIterable (.Call (.Name x p) (e :: es) [] pos') X.env y = pure y := by intro _; rfl) : PS X (.For tg (.Call (.Name x p) (e :: es) [] pos') body [] pos) (tForX K sp W t) := hK ▸ ps_forX F hpo hG hr hg hm hk hb tk ha hd1 he hpl hs
end
end Xk
local macro_rules | `(tactic| fail "ww1") => `(tactic| with_reducible first | refine Xk.r_vthen ?_ | refine Xk.r_vplain ?_ | refine Xk.r_v0 ?_ | refine Xk.r_vyield ?_ | refine Xk.r_vif ?_ | refine Xk.r_vfor ?_ | refine Xk.r_forX ?_ | refine Xk.r_forV ?_ | refine Xk.r_listV ?_ | refine Xk.r_callV ?_)
local macro_rules | `(tactic| fail "one") => `(tactic| with_reducible first | refine Xk.r_vthen ?_ | refine Xk.r_vplain ?_ | refine Xk.r_v0 ?_ | refine Xk.r_vyield ?_ | refine Xk.r_vif ?_ | refine Xk.r_vfor ?_ | refine Xk.r_forX ?_ | refine Xk.r_forV ?_ | refine Xk.r_listV ?_ | refine Xk.r_callV ?_)

set_option Elab.async false
set_option linter.all false
set_option maxRecDepth 100000
set_option maxHeartbeats 4000000
namespace Xk
open PySem PySem.Spec PyProof.Rows L2
/-! ### for k, v in d.items(), the keys tuples -/
/-- the items of the locked dict at d, each a new pair of the key's own tuple and the value -/
def ItpT (d : Addr) (o : Obj) (kvs : List (List Key × V)) : It where
  go i H := H d = some (.frz o (.dT kvs)) ∧ i < kvs.length
  yld i H x H' := ∃ (t q : Addr) (k : List Key) (v : V), kvs[i]? = some (k, v) ∧ x = .ref t ∧ H t = none ∧ H q = some (.tup (k.map kV)) ∧ H' = upd H t (.tup [.ref q, v])
  stop i H := H d = some (.frz o (.dT kvs)) ∧ kvs.length ≤ i
/-- what stands in a locked dict with tuple keys: size, keys and values -/
theorem frzTv {X : Cx} {pins : List (Addr × Obj)} {σ : L2.St} {H : Hp} {s : Shared} {d : Addr} {o : Obj} {kvs : List (List Key × V)} (I : Inv X pins σ H s) (h : H d = some (.frz o (.dT kvs))) :
    (d == sysModules) = false ∧ ∃ (es : Array DictEntry) (ep : Nat), s.heap.DictRaw d es ep ∧ o.data = .dict es ep ∧ es.size = kvs.length ∧
      ∀ (i : Nat) (k : List Key) (v : V), kvs[i]? = some (k, v) → ∃ (en : DictEntry) (q : Addr), es[i]? = some en ∧ en.key = .ref q ∧ H q = some (.tup (k.map kV)) ∧ RelV v en.val := by
  obtain ⟨ho, _, low, xs, rel, o', es, ep, ho', hx, hdat, hes, _⟩ := I.hok d _ h
  obtain rfl : o = o' := by rw [ho] at ho'; injection ho'
  have n1 : es.size = xs.length := size_of_entries hes
  have n2 : kvs.length = xs.length := Paired.length rel
  refine ⟨low, es, ep, ⟨o, ho, hx, hdat⟩, hdat, by omega, fun i k v e => ?_⟩
  obtain ⟨x, hx1, r1, r2, r3⟩ := paired_get rel e
  have q := entry_at hes i
  rw [hx1] at q
  exact ⟨_, x.2.1, q, rfl, r2, r3⟩
theorem turn_pairsT {P : Program} {w : World} {K : PySem.W.Frag} {elts : List Expr} {kk : Nat} {tpos : Pos} {d : Addr} {o : Obj} {es : Array DictEntry} {ep : Nat} {kvs : List (List Key × V)} (it : Addr) (hod : o.data = .dict es ep) :
    Turn P w K (.Tuple elts kk tpos) (ItpT d o kvs) [it] it (fun i h => ∃ a b, IsItemIter h it d i kvs.length ep a b) where
  mem := List.mem_singleton.mpr rfl
  obj := fun i h st b hb => by
    obtain ⟨x, y, e⟩ := st
    rw [List.mem_singleton.mp hb]
    exact ⟨_, e, fun v z => nomatch z⟩
  keep := fun i h h' st k => by
    obtain ⟨x, y, e⟩ := st
    exact ⟨x, y, k it (List.mem_singleton.mpr rfl) _ e⟩
  item := by
    intro X hP hw hK hc i pins s σ H E I hf st hg
    subst hP hw hK
    obtain ⟨x, y, hit⟩ := st
    obtain ⟨hs, es', ep', raw, hdat, hn, ent⟩ := frzTv I hg.1
    obtain ⟨rfl, rfl⟩ := dict_ep hod hdat
    have hi : i < kvs.length := hg.2
    obtain ⟨en, q, e1, e2, e3, e4⟩ := ent i kvs[i].1 kvs[i].2 (List.getElem?_eq_getElem hi)
    have hie : i < es'.size := by omega
    have e1 : es'[i] = en := by rw [Array.getElem?_eq_getElem hie] at e1; exact Option.some.inj e1
    have hlt : it < s.heap.objs.size := Heap.lt_size hit
    rw [← hn] at hit
    refine wpAny_pyNext_items_item_raw hit raw hie fun h1 out tup sz old => ?_
    rw [e1, e2] at out tup
    refine ⟨_, rfl, wpAny_letOwnedTupleGo_items (s := { s with heap := h1 }) out fun h2 back sb => ?_⟩
    have nt : H s.heap.objs.size = none := I.hok.fresh (Nat.le_refl _)
    have t2 : h2.get? s.heap.objs.size = some { cls := .type "tuple", data := .seq #[.ref q, en.val] } := (sb.2 _ (Nat.ne_of_gt hlt)).trans tup
    have J : Inv X pins σ (upd H s.heap.objs.size (.tup [.ref q, kvs[i].2])) { s with heap := h2 } :=
      I.turnedNew (t' := s.toks) (ch := [it]) (fun b ob hb e => (sb.2 b (by simpa using hb)).trans (old b ob (by simpa using hb) e)) hf (Nat.le_refl _)
        ⟨by show 2 ≤ sizeLine; decide, [.ref q, en.val], .cons rfl (.cons e4 .nil), ⟨_, t2, rfl, _, rfl⟩⟩
    refine ⟨.ref s.heap.objs.size, _, J, rfl, ⟨_, q, kvs[i].1, kvs[i].2, List.getElem?_eq_getElem hi, rfl, nt, e3, rfl⟩, ⟨.ref q, en.val, ?_⟩, fun b hb => ?_⟩
    · rw [← hn]; exact back
    · rw [List.mem_singleton.mp hb, upd_ne (Nat.ne_of_lt hlt)]
      exact (hf it (List.mem_singleton.mpr rfl)).1
  done := by
    intro X hP hw hK hc i pins s σ H E I hf st hg
    subst hP hw hK
    obtain ⟨x, y, hit⟩ := st
    obtain ⟨hs, es', ep', raw, hdat, hn, _⟩ := frzTv I hg.1
    obtain ⟨rfl, rfl⟩ := dict_ep hod hdat
    obtain ⟨f0, f1, f2, f3, f4, f5⟩ := hf it (List.mem_singleton.mpr rfl)
    have hge : es'.size ≤ i := by rw [hn]; exact hg.2
    rw [← hn] at hit
    exact wpAny_pyNext_items_end_raw (I.ok.hd hc) hit raw hge fun h1 sb => ⟨rfl, I.turned (t' := s.toks) (fun b ob hb e => sb b ob hb e) f0 f1 f3 f4 f5⟩
  self := fun A i s Q E st h => by
    obtain ⟨_, _, e⟩ := st
    exact PySem.W.kcp_self e h
/-- the dict is locked: its pairs -/
def iPairsT (td : TE) : TI := fun σ H R => td σ H fun x H1 => ∃ d o kvs, x = .ref d ∧ H1 d = some (.frz o (.dT kvs)) ∧ R (ItpT d o kvs) H1
theorem pi_pairsT {X : Cx} {e : Expr} {td : TE} {apos cpos : Pos} {elts : List Expr} {kk : Nat} {tpos : Pos} (he : PE X e td) (hbase : attributeBase e "items" X.env (eval e X.env) = eval e X.env := by rfl) (hline : (apos.endLine == cpos.line) = true := by rfl) :
    PI X (.Tuple elts kk tpos) (.Call (.Attribute e "items" apos) [] [] cpos) (iPairsT td) := by
  refine ⟨fun pins s σ H R I h => ?_⟩
  refine wpAny_Call_method (T := "dict") (id := "dict.items") hbase rfl hline PySem.F.plainAttrs_dict PySem.F.slot_dict_items PySem.F.type_dict_items (thn (he.run pins s σ H _ I h) fun u t ⟨x, H1, J, rx, d, o, kvs, ex, hd, q⟩ => ?_)
  subst ex
  obtain rfl : u = Value.ref d := rx
  obtain ⟨hs, es, ep, raw, hdat, hn, _⟩ := frzTv J hd
  have raw2 := raw
  obtain ⟨oo, go, ho, _⟩ := raw2
  refine ⟨raw.typeIs, ?_, ?_⟩
  · intro a e
    cases e
    exact ⟨oo, go, ho.2.1⟩
  · have J2 : Inv X pins σ H1 { t with heap := t.heap.push { cls := .type "dict_items", data := .fields #[.ref d] } } := J.kept (t' := t.toks) fun b ob q => Heap.get?_push_of_some _ q
    have fin : wpAny (model X.prog X.w) X.A (pyIter (.ref t.heap.objs.size)) (PIE X pins σ (.Tuple elts kk tpos) R) X.xe { t with heap := t.heap.push { cls := .type "dict_items", data := .fields #[.ref d] } } := by
      refine wpAny_pyIter_items_raw (d := d) ⟨_, Heap.get?_push_size _ rfl, rfl, rfl⟩ (raw.at fun _ e => Heap.get?_push_of_some _ e) (pi_one (tk := t.toks) J2 _ (turn_pairsT _ hdat) ⟨.none, .none, ?_⟩ q)
      rw [← hn]
      exact Heap.get?_push_size _ rfl
    show wpAny _ _ (callWith cpos (.builtin "dict.items") [.ref d] [] []) _ X.xe t
    exact method_meetsIn PySem.F.slot_dict_items PySem.F.entry_dict_items rfl (PySem.evalArgs_none ⟨rfl, raw.typeIs, PySem.F.args_dict_items_1 _, _, meets_dict_items_raw d hs, ⟨_, _, raw⟩, fin⟩)
theorem walk_pairsT {d : Addr} {o : Obj} {kvs : List (List Key × V)} : Walk (ItpT d o kvs) kvs.length (fun H => H d = some (.frz o (.dT kvs))) (fun i H x H' => ∃ (t q : Addr) (k : List Key) (v : V), kvs[i]? = some (k, v) ∧ x = .ref t ∧ H t = none ∧ H q = some (.tup (k.map kV)) ∧ H' = upd H t (.tup [.ref q, v])) :=
  ⟨fun i H hi h => ⟨h, hi⟩, fun H h => ⟨h, Nat.le_refl _⟩, fun i H x H' _ _ y => y⟩
end Xk

set_option Elab.async false
set_option linter.all false
set_option maxRecDepth 100000
set_option maxHeartbeats 4000000
namespace Xk
open PySem PySem.Spec PyProof.Rows L2
/-! ### zip(tuple, list) -/
/-- a tuple and a list side by side, each two items in a new pair -/
def ItTL (K : PySem.W.Frag) (a b : Addr) : It where
  go i H := ∃ (xs ys : List V) (x y : V), SqT K H a xs ∧ SqL K H b ys ∧ xs[i]? = some x ∧ ys[i]? = some y
  yld i H v H' := ∃ T x y, v = .ref T ∧ H T = none ∧ H' = upd H T (.tup [x, y]) ∧ (∀ xs, SqT K H a xs → xs[i]? = some x) ∧ ∀ ys, SqL K H b ys → ys[i]? = some y
  stop i H := ∃ xs ys : List V, SqT K H a xs ∧ SqL K H b ys ∧ i = min xs.length ys.length
theorem turn_tl {P : Program} {w : World} {K : PySem.W.Frag} {elts : List Expr} {kk : Nat} {tpos : Pos} {a b z TI TO i1 i2 : Addr} (S : ZipSep2 z TI TO i1 i2 [i1, a] [i2, b]) (na : a ≠ i1) (nb : b ≠ i2) :
    Turn P w K (.Tuple elts kk tpos) (ItTL K a b) [z, TI, TO, i1, i2] z (fun i h => IsZip h z TI TO .none ∧ IsTupOf2 h TI (.ref i1) (.ref i2) ∧ (∃ x y, IsTupOf2 h TO x y) ∧ h.IsTupleIter i1 a i ∧ h.IsListIter i2 b i) where
  mem := List.mem_cons_self
  obj := by
    rintro i h ⟨hz, hTI, ⟨x, y, hTO⟩, ⟨o1, e1, _, d1⟩, ⟨o2, e2, _, d2⟩⟩ c hc
    simp only [List.mem_cons, List.not_mem_nil, or_false] at hc
    rcases hc with rfl | rfl | rfl | rfl | rfl
    · exact ⟨_, hz, fun v q => nomatch q⟩
    · exact ⟨_, hTI, fun v q => nomatch q⟩
    · exact ⟨_, hTO, fun v q => nomatch q⟩
    · exact ⟨o1, e1, fun v q => by rw [d1] at q; cases q⟩
    · exact ⟨o2, e2, fun v q => by rw [d2] at q; cases q⟩
  keep := by
    rintro i h h' ⟨hz, hTI, ⟨x, y, hTO⟩, h1, h2⟩ k
    exact ⟨k z (by simp) _ hz, k TI (by simp) _ hTI, ⟨x, y, k TO (by simp) _ hTO⟩, h1.at fun o q => k i1 (by simp) o q, h2.at fun o q => k i2 (by simp) o q⟩
  item := by
    intro X hP hw hK hc i pins s σ H E I hf st hg
    subst hP hw hK
    obtain ⟨hz, hTI, ⟨x0, y0, hTO⟩, h1, h2⟩ := st
    obtain ⟨xs, ys, x, y, qx, qy, hx, hy⟩ := hg
    obtain ⟨its, rv, p, _⟩ := I.tuple qx
    obtain ⟨its2, rv2, p2, _⟩ := I.list qy
    obtain ⟨u, hu, ru⟩ := rv.get hx
    obtain ⟨u2, hu2, ru2⟩ := rv2.get hy
    have hu' : its.toArray[i]? = some u := by simpa using hu
    have hu2' : its2.toArray[i]? = some u2 := by simpa using hu2
    have l1 : i < its.toArray.size := (Array.getElem?_eq_some_iff.mp hu').1
    have l2 : i < its2.toArray.size := (Array.getElem?_eq_some_iff.mp hu2').1
    have zl : z < s.heap.objs.size := Heap.lt_size hz
    refine wpAny_pyNext_zipD2_item S (Draws.tuple (prog := X.prog) (w := X.w) (A := X.A.in1) (I.ok.hd hc) i1 a na its.toArray) (Draws.list (prog := X.prog) (w := X.w) (A := X.A.in1) (I.ok.hd hc) i2 b nb its2.toArray)
      hz hTI hTO ⟨h1, p⟩ ⟨h2, p2.isList⟩ l1 l2 fun y1 y2 h' tk e1 e2 z' TO' st1 st2 hT hsz hk => ?_
    have e1 : u = y1 := by
      have e1 : its.toArray[i]? = some y1 := e1
      rw [hu'] at e1; exact Option.some.inj e1
    have e2 : u2 = y2 := by
      have e2 : its2.toArray[i]? = some y2 := e2
      rw [hu2'] at e2; exact Option.some.inj e2
    subst e1
    subst e2
    refine ⟨_, rfl, wpAny_letOwnedTupleGo_zip (s := { s with heap := h', toks := tk }) z' fun h'' z'' sb => ?_⟩
    have hT2 : h''.get? s.heap.objs.size = some { cls := .type "tuple", data := .seq #[u, u2] } := (sb.2 _ (Nat.ne_of_gt zl)).trans hT
    have J : Inv X pins σ (upd H s.heap.objs.size (.tup [x, y])) { s with heap := h'', toks := tk } := by
      refine I.turnedNew (ch := [z, TI, TO, i1, i2]) (fun c o hb q => ?_) hf (Nat.le_refl _) ⟨by show 2 ≤ sizeLine; decide, [u, u2], .cons ru (.cons ru2 .nil), ⟨_, hT2, rfl, _, rfl⟩⟩
      have b1 : c ≠ z := fun q' => hb (by simp [q'])
      have b2 : c ≠ TO := fun q' => hb (by simp [q'])
      have b3 : c ≠ i1 := fun q' => hb (by simp [q'])
      have b4 : c ≠ i2 := fun q' => hb (by simp [q'])
      exact (sb.2 c b1).trans (hk c o b1 b2 b3 b4 q)
    refine ⟨.ref s.heap.objs.size, _, J, rfl, ⟨_, x, y, rfl, I.hok.fresh (Nat.le_refl _), rfl, fun l hl => by rw [I.tuple_inj hl qx]; exact hx, fun l hl => by rw [I.list_inj hl qy]; exact hy⟩, ⟨z'', ?_, ⟨u, u2, ?_⟩, ?_, ?_⟩, fun c hcm => ?_⟩
    · exact (sb.2 _ S.TIz).trans (hk _ _ S.TIz S.TITO S.TIi1 S.TIi2 hTI)
    · exact (sb.2 _ S.TOz).trans TO'
    · exact st1.1.at fun o q => (sb.2 _ S.zi1.symm).trans q
    · exact st2.1.at fun o q => (sb.2 _ S.zi2.symm).trans q
    · have hlt : c < s.heap.objs.size := by
        simp only [List.mem_cons, List.not_mem_nil, or_false] at hcm
        rcases hcm with rfl | rfl | rfl | rfl | rfl
        · exact zl
        · exact Heap.lt_size hTI
        · exact Heap.lt_size hTO
        · obtain ⟨_, e1, _⟩ := h1; exact Heap.lt_size e1
        · obtain ⟨_, e2, _⟩ := h2; exact Heap.lt_size e2
      rw [upd_ne (Nat.ne_of_lt hlt)]
      exact (hf c hcm).1
  done := by
    intro X hP hw hK hc i pins s σ H E I hf st hg
    subst hP hw hK
    obtain ⟨hz, hTI, ⟨x0, y0, hTO⟩, h1, h2⟩ := st
    obtain ⟨xs, ys, qx, qy, hend⟩ := hg
    obtain ⟨its, rv, p, _⟩ := I.tuple qx
    obtain ⟨its2, rv2, p2, _⟩ := I.list qy
    have l1 := rv.length
    have l2 := rv2.length
    refine wpAny_pyNext_zipD2_end S (Draws.tuple (prog := X.prog) (w := X.w) (A := X.A.in1) (I.ok.hd hc) i1 a na its.toArray) (Draws.list (prog := X.prog) (w := X.w) (A := X.A.in1) (I.ok.hd hc) i2 b nb its2.toArray)
      hz hTI hTO ⟨h1, p⟩ ⟨h2, p2.isList⟩ (by simp; omega) (by simp; omega) (by simp; omega) fun h' tk hk => ⟨rfl, I.turnedL (ch := [z, TI, TO, i1, i2]) (fun c o hb q => ?_) hf⟩
    exact hk c o (fun q' => hb (by simp [q'])) (fun q' => hb (by simp [q'])) (fun q' => hb (by simp [q'])) (fun q' => hb (by simp [q'])) q
  self := fun A i s Q E st h => wpAny_pyIter_zip st.1 h
def iZipTL (K : PySem.W.Frag) (ta : TA) : TI := fun σ H R => ta σ H fun vs H1 => ∃ a b xs ys, vs = [.ref a, .ref b] ∧ SqT K H1 a xs ∧ SqL K H1 b ys ∧ R (ItTL K a b) H1
theorem pi_zipTL {X : Cx} {e e2 : Expr} {ta : TA} {p pos tpos : Pos} {elts : List Expr} {kk : Nat} (hg : Gl X "zip") (hm : X.mg "zip" = none) (ha : PA X [e, e2] ta)
    (hs : starEach [e, e2] X.env = (false, eval e X.env) :: starEach [e2] X.env := by rfl) (hpl : (backTo pos (starEach [e2] X.env)).any (·.1) = false := by rfl) :
    PI X (.Tuple elts kk tpos) (.Call (.Name "zip" p) [e, e2] [] pos) (iZipTL X.K ta) := by
  refine ⟨fun pins s σ H R I h => ?_⟩
  refine Call_ (ld_blt I hg hm PyProof.Rows.boot_zip (PyProof.Rows.callWith_type1 (thn (ha.run pos pins s σ H _ I h) fun us s1 ⟨vs, H1, J, r1, q1⟩ => ?_) hs hpl))
  obtain ⟨a, b, xs, ys, ex, qx, qy, q⟩ := q1
  subst ex
  obtain ⟨u1, u2, rfl, rx, ry⟩ := L2.vals2 r1
  cases rx
  cases ry
  obtain ⟨its, rv, p1, _⟩ := J.tuple qx
  obtain ⟨its2, rv2, p2, _⟩ := J.list qy
  obtain ⟨oa, ga, _⟩ := id p1
  obtain ⟨ob, gb, _⟩ := id p2.isList
  have la := Heap.lt_size ga
  have lb := Heap.lt_size gb
  refine zip_begins2 (begins_tuple a its.toArray) (begins_list b its2.toArray) p1 p2.isList fun h' hz hTI hTO g1 g2 hsz hk => wpAny_pyIter_zip hz ?_
  have J2 : Inv X pins σ H1 { s1 with heap := h' } := J.kept (t' := s1.toks) hk
  refine ⟨s1.heap.objs.size + 4, [s1.heap.objs.size + 4, s1.heap.objs.size + 2, s1.heap.objs.size + 3, s1.heap.objs.size, s1.heap.objs.size + 1], _, _, H1, rfl, J2,
    turn_tl (zip_sep2 (fp1 := [a]) (fp2 := [b]) (fun c hc => by rw [List.mem_singleton.mp hc]; exact la) (fun c hc => by rw [List.mem_singleton.mp hc]; exact lb)) (Nat.ne_of_lt la) (Nat.ne_of_lt (Nat.lt_succ_of_lt lb)), ⟨hz, hTI, ⟨_, _, hTO⟩, ⟨_, g1, rfl, rfl⟩, ⟨_, g2, rfl, rfl⟩⟩, fun c hcm => ?_, q⟩
  have hle : s1.heap.objs.size ≤ c := by
    simp only [List.mem_cons, List.not_mem_nil, or_false] at hcm
    rcases hcm with rfl | rfl | rfl | rfl | rfl
    · exact Nat.le_add_right _ _
    · exact Nat.le_add_right _ _
    · exact Nat.le_add_right _ _
    · exact Nat.le_refl _
    · exact Nat.le_add_right _ _
  exact J.fpOk hle (J.hok.fresh hle)
theorem pi_zipTLK (K : PySem.W.Frag) {X : Cx} {e e2 : Expr} {ta : TA} {p pos tpos : Pos} {elts : List Expr} {kk : Nat} (hg : Gl X "zip") (hm : X.mg "zip" = none) (ha : PA X [e, e2] ta)
    (hs : starEach [e, e2] X.env = (false, eval e X.env) :: starEach [e2] X.env := by rfl) (hpl : (backTo pos (starEach [e2] X.env)).any (·.1) = false := by rfl) (hK : X.K = K := by rfl) :
    PI X (.Tuple elts kk tpos) (.Call (.Name "zip" p) [e, e2] [] pos) (iZipTL K ta) := hK ▸ pi_zipTL hg hm ha hs hpl
theorem r_iZipTL {K : PySem.W.Frag} {ta : TA} {σ : L2.St} {H : Hp} {R : It → Hp → Prop} (h : ta σ H fun vs H1 => ∃ a b xs ys, vs = [.ref a, .ref b] ∧ SqT K H1 a xs ∧ SqL K H1 b ys ∧ R (ItTL K a b) H1) : iZipTL K ta σ H R := h
theorem walk_tl {K : PySem.W.Frag} {a b : Addr} {xs ys : List V} {n : Nat} (hn : n = min xs.length ys.length) : Walk (ItTL K a b) n (fun H => SqT K H a xs ∧ SqL K H b ys) (YPair (fun i => xs[i]?) (fun i => ys[i]?)) := by
  refine ⟨fun i H hi h => ⟨xs, ys, xs[i], ys[i], h.1, h.2, List.getElem?_eq_getElem (by omega), List.getElem?_eq_getElem (by omega)⟩, fun H h => ⟨xs, ys, h.1, h.2, hn⟩, fun i H x H' hi h y => ?_⟩
  obtain ⟨T, u, v, e1, e2, e3, e4, e5⟩ := y
  exact ⟨T, u, v, e1, e2, e3, e4 _ h.1, e5 _ h.2⟩
end Xk

namespace My
/-! ### sorted lists -/
def ins (x : Int) : List Int → List Int
  | [] => [x]
  | y :: r => if x ≤ y then x :: y :: r else y :: ins x r
def srt : List Int → List Int
  | [] => []
  | x :: r => ins x (srt r)
theorem ins_perm (x : Int) : ∀ l : List Int, (ins x l).Perm (x :: l)
  | [] => List.Perm.refl _
  | y :: r => by
    unfold ins
    split
    · exact List.Perm.refl _
    · exact ((ins_perm x r).cons y).trans (List.Perm.swap x y r)
theorem srt_perm : ∀ l : List Int, (srt l).Perm l
  | [] => List.Perm.refl _
  | x :: r => (ins_perm x (srt r)).trans ((srt_perm r).cons x)
theorem ins_up (x : Int) : ∀ l : List Int, l.Pairwise (· ≤ ·) → (ins x l).Pairwise (· ≤ ·)
  | [], _ => List.pairwise_singleton _ _
  | y :: r, h => by
    have h1 := List.pairwise_cons.mp h
    unfold ins
    split
    · rename_i hxy
      exact List.pairwise_cons.mpr ⟨fun z hz => by
        rcases List.mem_cons.mp hz with e | e
        · rw [e]; exact hxy
        · exact Int.le_trans hxy (h1.1 z e), h⟩
    · refine List.pairwise_cons.mpr ⟨fun z hz => ?_, ins_up x r h1.2⟩
      rcases List.mem_cons.mp ((ins_perm x r).mem_iff.mp hz) with e | e
      · rw [e]; omega
      · exact h1.1 z e
theorem srt_up : ∀ l : List Int, (srt l).Pairwise (· ≤ ·)
  | [] => List.Pairwise.nil
  | x :: r => ins_up x _ (srt_up r)
theorem up_unique : ∀ {l m : List Int}, l.Perm m → l.Pairwise (· ≤ ·) → m.Pairwise (· ≤ ·) → l = m
  | [], m, h, _, _ => (h.nil_eq).symm ▸ rfl
  | x :: r, m, h, h1, h2 => by
    cases m with
    | nil => exact absurd h.eq_nil (by simp)
    | cons y t =>
      have a1 := List.pairwise_cons.mp h1
      have a2 := List.pairwise_cons.mp h2
      have e : x = y := by
        have hx : x ∈ y :: t := h.mem_iff.mp List.mem_cons_self
        have hy : y ∈ x :: r := h.mem_iff.mpr List.mem_cons_self
        rcases List.mem_cons.mp hx with q | q
        · exact q
        · rcases List.mem_cons.mp hy with q' | q'
          · exact q'.symm
          · have := a1.1 y q'; have := a2.1 x q; omega
      subst e
      rw [up_unique ((List.perm_cons x).mp h) a1.2 a2.2]
theorem srt_is {l m : List Int} (h : m.Perm l) (u : m.Pairwise (· ≤ ·)) : m = srt l := up_unique (h.trans (srt_perm l).symm) u (srt_up l)
theorem srt_len (l : List Int) : (srt l).length = l.length := (srt_perm l).length_eq
/-- the values at the places i to j sorted -/
def seg (l : List Int) (i j : Nat) : List Int := l.take (i - 1) ++ srt ((l.drop (i - 1)).take (j - (i - 1))) ++ l.drop j
theorem seg_perm {l : List Int} {i j : Nat} (h1 : i ≤ j) (_h2 : j ≤ l.length) : (seg l i j).Perm l := by
  unfold seg
  have e : l = l.take (i - 1) ++ (l.drop (i - 1)).take (j - (i - 1)) ++ l.drop j := by
    conv => lhs; rw [← List.take_append_drop (i - 1) l, ← List.take_append_drop (j - (i - 1)) (l.drop (i - 1)), List.drop_drop]
    rw [List.append_assoc, show i - 1 + (j - (i - 1)) = j by omega]
  conv => rhs; rw [e]
  exact ((srt_perm _).append_left _).append_right _
theorem seg_len {l : List Int} {i j : Nat} (h1 : i ≤ j) (h2 : j ≤ l.length) : (seg l i j).length = l.length := (seg_perm h1 h2).length_eq
abbrev Cmd := Nat × Nat
def step (l : List Int) (c : Cmd) : List Int := seg l c.1 c.2
def runM (l : List Int) (cs : List Cmd) : List Int := cs.foldl step l
/-- the commands fit rows of n places -/
def Fits (n : Nat) (cs : List Cmd) : Prop := ∀ c ∈ cs, 1 ≤ c.1 ∧ c.1 ≤ c.2 ∧ c.2 ≤ n
theorem runM_perm : ∀ (cs : List Cmd) (l : List Int), Fits l.length cs → (runM l cs).Perm l
  | [], l, _ => List.Perm.refl l
  | c :: r, l, h => by
    have hc := h c List.mem_cons_self
    have p := seg_perm hc.2.1 hc.2.2
    refine List.Perm.trans (runM_perm r (step l c) ?_) p
    show Fits (seg l c.1 c.2).length r
    rw [p.length_eq]
    exact fun d hd => h d (List.mem_cons_of_mem _ hd)
theorem runM_len {cs : List Cmd} {l : List Int} (h : Fits l.length cs) : (runM l cs).length = l.length := (runM_perm cs l h).length_eq
theorem runM_snoc (l : List Int) (cs : List Cmd) (c : Cmd) : runM l (cs ++ [c]) = step (runM l cs) c := by unfold runM; rw [List.foldl_append]; rfl
theorem runM_app (l : List Int) (cs ds : List Cmd) : runM l (cs ++ ds) = runM (runM l cs) ds := List.foldl_append ..
theorem Fits.take {n k : Nat} {cs : List Cmd} (h : Fits n cs) : Fits n (cs.take k) := fun c hc => h c (List.mem_of_mem_take hc)
theorem Fits.drop {n k : Nat} {cs : List Cmd} (h : Fits n cs) : Fits n (cs.drop k) := fun c hc => h c (List.mem_of_mem_drop hc)
end My
namespace My
def IsArr (l : List Int) : Prop := l.Nodup ∧ ∀ v ∈ l, 1 ≤ v ∧ v ≤ l.length
/-- how many of the first p values are at most q -/
def cnt (l : List Int) (p q : Nat) : Nat := ((l.take p).filter (fun v => decide (v ≤ (q : Int)))).length
theorem cnt_zero (l : List Int) (q : Nat) : cnt l 0 q = 0 := by simp [cnt]
theorem cnt_succ {l : List Int} {p : Nat} (h : p < l.length) (q : Nat) : cnt l (p + 1) q = cnt l p q + if l[p] ≤ (q : Int) then 1 else 0 := by
  unfold cnt
  rw [List.take_add_one, List.getElem?_eq_getElem h, List.filter_append, List.length_append]
  by_cases e : l[p] ≤ (q : Int) <;> simp [e]
def AtMost (a b : List Int) : Prop := ∀ p q : Nat, cnt b p q ≤ cnt a p q
theorem cnt_all {l : List Int} {p q : Nat} (h : ∀ v ∈ l, v ≤ (q : Int)) : cnt l p q = min p l.length := by
  unfold cnt
  rw [List.filter_eq_self.mpr fun v hv => decide_eq_true (h v (List.mem_of_mem_take hv)), List.length_take]
theorem cnt_none {l : List Int} {p : Nat} (h : ∀ v ∈ l, 1 ≤ v) : cnt l p 0 = 0 := by
  unfold cnt
  rw [List.length_eq_zero_iff, List.filter_eq_nil_iff]
  intro v hv
  have := h v (List.mem_of_mem_take hv)
  simp; omega
theorem cnt_over {l : List Int} {p q : Nat} (h : l.length ≤ p) : cnt l p q = cnt l l.length q := by
  unfold cnt
  rw [List.take_of_length_le h, List.take_of_length_le (Nat.le_refl _)]
/-- counts with limits below the size tell everything -/
theorem most_iff {a b : List Int} (ha : IsArr a) (hb : IsArr b) (hl : a.length = b.length) : AtMost a b ↔ ∀ p, p ≤ a.length → ∀ q, q < a.length → cnt b p q ≤ cnt a p q := by
  refine ⟨fun h p _ q _ => h p q, fun h p q => ?_⟩
  have key : ∀ p, p ≤ a.length → cnt b p q ≤ cnt a p q := fun p hp => by
    by_cases hq : q < a.length
    · exact h p hp q hq
    · rw [cnt_all fun v hv => Int.le_trans (hb.2 v hv).2 (by omega), cnt_all fun v hv => Int.le_trans (ha.2 v hv).2 (by omega), hl]
      exact Nat.le_refl _
  by_cases hp : p ≤ a.length
  · exact key p hp
  · rw [cnt_over (l := a) (by omega), cnt_over (l := b) (by omega), ← hl]
    exact key _ (Nat.le_refl _)
noncomputable instance (a b : List Int) : Decidable (AtMost a b) := Classical.propDecidable _
theorem arr_asc {l : List Int} {n : Nat} (h : l.Perm ((List.range n).map fun (i : Nat) => (1 + i : Int))) : IsArr l := by
  have hl : l.length = n := by rw [h.length_eq]; simp
  refine ⟨h.symm.nodup ?_, fun v hv => ?_⟩
  · rw [List.Nodup, List.pairwise_map]
    exact List.nodup_range.imp fun h q => h (by omega)
  · obtain ⟨k, hk, rfl⟩ := List.mem_map.mp (h.mem_iff.mp hv)
    have := List.mem_range.mp hk
    omega
/-- a row of numbers by a function of the place -/
def tab (n : Nat) (f : Nat → Int) : List Int := (List.range n).map f
theorem tab_len (n : Nat) (f : Nat → Int) : (tab n f).length = n := by simp [tab]
theorem tab_get {n : Nat} {f : Nat → Int} {k : Nat} (h : k < n) : (tab n f)[k]? = some (f k) := by simp [tab, h]
theorem tab_set {n : Nat} {f : Nat → Int} {k : Nat} {v : Int} : (tab n f).set k v = tab n fun q => if q = k then v else f q := by
  apply List.ext_getElem
  · simp [tab]
  · intro i h1 h2
    rw [List.getElem_set]
    simp only [tab, List.getElem_map, List.getElem_range]
    by_cases e : k = i
    · subst e; simp
    · rw [if_neg e, if_neg (fun q => e q.symm)]
theorem tab_congr {n : Nat} {f g : Nat → Int} (h : ∀ q, q < n → f q = g q) : tab n f = tab n g := by
  unfold tab
  exact List.map_congr_left fun q hq => h q (List.mem_range.mp hq)
theorem tab_const (n : Nat) (c : Int) : List.replicate n c = tab n fun _ => c := by
  apply List.ext_getElem <;> simp [tab]
end My
namespace My
/-! ### counts of small values ahead of a place -/
def zc (l : List Int) (t : Int) (p : Nat) : Nat := (l.take p).countP (fun v => decide (v ≤ t))
theorem zc_succ {l : List Int} {p : Nat} (h : p < l.length) (t : Int) : zc l t (p + 1) = zc l t p + if l[p] ≤ t then 1 else 0 := by
  unfold zc
  rw [List.take_add_one, List.getElem?_eq_getElem h, List.countP_append]
  by_cases g : l[p] ≤ t <;> simp [g]
theorem zc_le (l : List Int) (t : Int) (p : Nat) : zc l t p ≤ p := Nat.le_trans List.countP_le_length (by rw [List.length_take]; omega)
theorem zc_step (l : List Int) (t : Int) (p : Nat) : zc l t p ≤ zc l t (p + 1) ∧ zc l t (p + 1) ≤ zc l t p + 1 := by
  by_cases h : p < l.length
  · rw [zc_succ h]; split <;> omega
  · have : zc l t (p + 1) = zc l t p := by unfold zc; rw [List.take_of_length_le (by omega), List.take_of_length_le (by omega)]
    omega
theorem zc_mono {l : List Int} {t : Int} {p : Nat} : ∀ d, zc l t p ≤ zc l t (p + d) ∧ zc l t (p + d) ≤ zc l t p + d
  | 0 => by simp
  | d + 1 => by
    have h1 := zc_mono (l := l) (t := t) (p := p) d
    have h2 := zc_step l t (p + d)
    rw [show p + (d + 1) = p + d + 1 by omega]
    omega
theorem up_zc (t : Int) : ∀ (s : List Int) (k : Nat), s.Pairwise (· ≤ ·) → zc s t k = min k (s.countP (fun v => decide (v ≤ t)))
  | [], k, _ => by simp [zc]
  | x :: r, 0, _ => by simp [zc]
  | x :: r, k + 1, h => by
    have h1 := List.pairwise_cons.mp h
    have ih := up_zc t r k h1.2
    unfold zc at ih ⊢
    rw [List.take_succ_cons, List.countP_cons, List.countP_cons]
    by_cases g : x ≤ t
    · simp only [g, decide_true, if_true]; rw [ih]; omega
    · have z : r.countP (fun v => decide (v ≤ t)) = 0 := List.countP_eq_zero.mpr fun v hv => by have := h1.1 v hv; simp; omega
      rw [z] at ih ⊢
      simp only [g, decide_false, Bool.false_eq_true, if_false]; rw [ih]; simp
theorem zc_app (a b : List Int) (t : Int) (p : Nat) : zc (a ++ b) t p = zc a t p + zc b t (p - a.length) := by
  unfold zc; rw [List.take_append, List.countP_append]
theorem zc_all {l : List Int} {t : Int} {p : Nat} (h : l.length ≤ p) : zc l t p = l.countP (fun v => decide (v ≤ t)) := by unfold zc; rw [List.take_of_length_le h]
theorem zc_seg {l : List Int} {i j : Nat} (h1 : 1 ≤ i) (h2 : i ≤ j) (h3 : j ≤ l.length) (t : Int) (p : Nat) :
    zc (seg l i j) t p = if p < i ∨ j < p then zc l t p else min (zc l t (i - 1) + (p - (i - 1))) (zc l t j) := by
  obtain ⟨A, M, B, rfl, hA, hM⟩ : ∃ A M B, l = A ++ M ++ B ∧ A.length = i - 1 ∧ M.length = j - (i - 1) := by
    refine ⟨l.take (i - 1), (l.drop (i - 1)).take (j - (i - 1)), l.drop j, ?_, by rw [List.length_take]; omega, by rw [List.length_take, List.length_drop]; omega⟩
    conv => lhs; rw [← List.take_append_drop (i - 1) l, ← List.take_append_drop (j - (i - 1)) (l.drop (i - 1)), List.drop_drop]
    rw [List.append_assoc, show i - 1 + (j - (i - 1)) = j by omega]
  have e : seg (A ++ M ++ B) i j = A ++ srt M ++ B := by
    unfold seg
    have e1 : (A ++ M ++ B).take (i - 1) = A := by rw [List.append_assoc, ← hA, List.take_left]
    have e2 : (A ++ M ++ B).drop (i - 1) = M ++ B := by rw [List.append_assoc, ← hA, List.drop_left]
    have e3 : (A ++ M ++ B).drop j = B := by rw [show j = (A ++ M).length by rw [List.length_append]; omega, List.drop_left]
    rw [e1, e2, e3, ← hM, List.take_left]
  rw [e]
  have hs : (srt M).length = M.length := srt_len M
  have cM : (srt M).countP (fun v => decide (v ≤ t)) = M.countP (fun v => decide (v ≤ t)) := (srt_perm M).countP_eq _
  simp only [zc_app, List.length_append, hs, hA, hM]
  rw [zc_all (l := A) (p := j) (by omega), zc_all (l := M) (p := j - (i - 1)) (by omega), show j - (i - 1 + (j - (i - 1))) = 0 by omega]
  rw [zc_all (l := A) (p := i - 1) (by omega), show i - 1 - (i - 1) = 0 by omega, show i - 1 - (i - 1 + (j - (i - 1))) = 0 by omega]
  have z0 : ∀ b : List Int, zc b t 0 = 0 := fun b => by simp [zc]
  rw [z0, z0, up_zc t _ _ (srt_up M), cM]
  by_cases g : p < i ∨ j < p
  · rw [if_pos g]
    rcases g with g | g
    · rw [show p - (i - 1) = 0 by omega]; rw [z0]; simp
    · rw [zc_all (l := M) (p := p - (i - 1)) (by omega)]
      have := List.countP_le_length (p := fun v => decide (v ≤ t)) (l := M)
      omega
  · rw [if_neg g, zc_all (l := A) (p := p) (by omega), show p - (i - 1 + (j - (i - 1))) = 0 by omega, z0]
    omega
/-- rows of one length with the same counts are equal -/
theorem zc_ext {l m : List Int} (hl : l.length = m.length) (h : ∀ t p, p ≤ l.length → zc l t p = zc m t p) : l = m := by
  refine List.ext_getElem hl fun k h1 h2 => ?_
  have key : ∀ t, l[k] ≤ t ↔ m[k] ≤ t := fun t => by
    have a := h t (k + 1) (by omega)
    rw [zc_succ h1, zc_succ h2, h t k (by omega)] at a
    by_cases g : l[k] ≤ t <;> by_cases g' : m[k] ≤ t <;> simp [g, g'] at a ⊢
  have := (key l[k]).mp (Int.le_refl _)
  have := (key m[k]).mpr (Int.le_refl _)
  omega
def desc (n : Nat) : List Int := (List.range n).map fun (k : Nat) => ((n : Int) - k)
theorem desc_len (n : Nat) : (desc n).length = n := by simp [desc]
theorem desc_get {n k : Nat} (h : k < (desc n).length) : (desc n)[k] = (n : Int) - k := by simp [desc]
theorem zc_desc {n : Nat} (q : Nat) (hq : q ≤ n) : ∀ p, p ≤ n → zc (desc n) ((n : Int) - q) p = p - q
  | 0, _ => by simp [zc]
  | p + 1, h => by
    have h' : p < (desc n).length := by rw [desc_len]; omega
    rw [zc_succ h', zc_desc q hq p (by omega), desc_get]
    split <;> omega
/-- what a script makes of a row, told by what it makes of the descending arrangement -/
def Told (n : Nat) (l0 l e : List Int) : Prop := l.length = n ∧ e.length = n ∧ ∀ (t : Int) (p : Nat), p ≤ n →
  (∀ q, q ≤ n → zc l t p ≤ zc l0 t q + zc e ((n : Int) - q) p) ∧ ∃ q, q ≤ n ∧ zc l t p = zc l0 t q + zc e ((n : Int) - q) p
theorem told_nil {l : List Int} : Told l.length l l (desc l.length) := ⟨rfl, desc_len _, fun t p hp => ⟨fun q hq => by
    rw [zc_desc q hq p hp]
    by_cases g : q ≤ p
    · have := (zc_mono (l := l) (t := t) (p := q) (p - q)).2
      rw [show q + (p - q) = p by omega] at this
      exact this
    · have := (zc_mono (l := l) (t := t) (p := p) (q - p)).1
      rw [show p + (q - p) = q by omega] at this
      omega, p, hp, by rw [zc_desc p hp p hp]; omega⟩⟩
theorem told_step {n : Nat} {l0 l e : List Int} {c : Cmd} (h1 : 1 ≤ c.1) (h2 : c.1 ≤ c.2) (h3 : c.2 ≤ n) (h : Told n l0 l e) : Told n l0 (step l c) (step e c) := by
  obtain ⟨hl, he, h⟩ := h
  refine ⟨(seg_len h2 (by omega)).trans hl, (seg_len h2 (by omega)).trans he, fun t p hp => ?_⟩
  have key : zc (step l c) t p = if p < c.1 ∨ c.2 < p then zc l t p else min (zc l t (c.1 - 1) + (p - (c.1 - 1))) (zc l t c.2) := zc_seg (l := l) h1 h2 (by omega) t p
  have kee : ∀ q : Nat, zc (step e c) ((n : Int) - q) p = _ := fun q => zc_seg (l := e) h1 h2 (by omega) ((n : Int) - q) p
  by_cases g : p < c.1 ∨ c.2 < p
  · have a := h t p hp
    refine ⟨fun q hq => ?_, ?_⟩
    · rw [key, kee q, if_pos g, if_pos g]; exact a.1 q hq
    · obtain ⟨q, hq, e1⟩ := a.2
      exact ⟨q, hq, by rw [key, kee q, if_pos g, if_pos g]; exact e1⟩
  · have a := h t (c.1 - 1) (by omega)
    have b := h t c.2 h3
    refine ⟨fun q hq => ?_, ?_⟩
    · rw [key, kee q, if_neg g, if_neg g]
      have := a.1 q hq; have := b.1 q hq
      omega
    · by_cases w : zc l t (c.1 - 1) + (p - (c.1 - 1)) ≤ zc l t c.2
      · obtain ⟨q, hq, e1⟩ := a.2
        refine ⟨q, hq, ?_⟩
        rw [key, kee q, if_neg g, if_neg g]
        have := b.1 q hq
        omega
      · obtain ⟨q, hq, e1⟩ := b.2
        refine ⟨q, hq, ?_⟩
        rw [key, kee q, if_neg g, if_neg g]
        have := a.1 q hq
        omega
theorem told_run {n : Nat} {l0 : List Int} : ∀ (cs : List Cmd) (l e : List Int), Fits n cs → Told n l0 l e → Told n l0 (runM l cs) (runM e cs)
  | [], _, _, _, h => h
  | c :: r, l, e, f, h => told_run r (step l c) (step e c) (fun d hd => f d (List.mem_cons_of_mem _ hd))
      (told_step (f c List.mem_cons_self).1 (f c List.mem_cons_self).2.1 (f c List.mem_cons_self).2.2 h)
theorem told_one {n : Nat} {l0 l m e : List Int} (h : Told n l0 l e) (g : Told n l0 m e) : l = m :=
  zc_ext (h.1.trans g.1.symm) fun t p hp => by
    rw [h.1] at hp
    obtain ⟨q, hq, e1⟩ := (h.2.2 t p hp).2
    obtain ⟨q', hq', e2⟩ := (g.2.2 t p hp).2
    have := (h.2.2 t p hp).1 q' hq'
    have := (g.2.2 t p hp).1 q hq
    omega
/-- scripts with one effect do the same -/
theorem same_eff {cs ds : List Cmd} {l : List Int} (hc : Fits l.length cs) (hd : Fits l.length ds) (h : runM (desc l.length) cs = runM (desc l.length) ds) : runM l cs = runM l ds := by
  have a := told_run cs l (desc l.length) hc told_nil
  have b := told_run ds l (desc l.length) hd told_nil
  rw [← h] at b
  exact told_one a b
end My
namespace My
/-! ### exchanges of neighbours -/
theorem two_at {l : List Int} {k : Nat} (h1 : 1 ≤ k) (h2 : k < l.length) : ∃ A B, l = A ++ l[k - 1] :: l[k] :: B ∧ A.length = k - 1 := by
  refine ⟨l.take (k - 1), l.drop (k + 1), ?_, by rw [List.length_take]; omega⟩
  have e1 : l.drop (k - 1) = l[k - 1] :: l.drop k := by
    rw [List.drop_eq_getElem_cons (by omega)]
    simp only [show k - 1 + 1 = k by omega]
  have e2 : l.drop k = l[k] :: l.drop (k + 1) := List.drop_eq_getElem_cons h2
  rw [← e2, ← e1, List.take_append_drop]
theorem seg_two {A B : List Int} {a b : Int} {k : Nat} (h1 : 1 ≤ k) (hA : A.length = k - 1) : seg (A ++ a :: b :: B) k (k + 1) = if b < a then A ++ b :: a :: B else A ++ a :: b :: B := by
  unfold seg
  have e1 : (A ++ a :: b :: B).take (k - 1) = A := by rw [← hA, List.take_left]
  have e2 : (A ++ a :: b :: B).drop (k - 1) = a :: b :: B := by rw [← hA, List.drop_left]
  have e3 : (A ++ a :: b :: B).drop (k + 1) = B := by
    rw [show A ++ a :: b :: B = (A ++ [a, b]) ++ B by simp, show k + 1 = (A ++ [a, b]).length by rw [List.length_append]; show _ = A.length + 2; omega, List.drop_left]
  rw [e1, e2, e3, show k + 1 - (k - 1) = 2 by omega]
  have e4 : srt [a, b] = if a ≤ b then [a, b] else [b, a] := by simp [srt, ins]
  show A ++ srt [a, b] ++ B = _
  rw [e4]
  by_cases g : a ≤ b
  · rw [if_pos g, if_neg (by omega)]; simp
  · rw [if_neg g, if_pos (by omega)]; simp
/-- two neighbours exchanged -/
def swp (l : List Int) (k : Nat) (x y : Int) : List Int := (l.set (k - 1) x).set k y
theorem swp_two {A B : List Int} {a b x y : Int} {k : Nat} (h1 : 1 ≤ k) (hA : A.length = k - 1) : swp (A ++ a :: b :: B) k x y = A ++ x :: y :: B := by
  unfold swp
  rw [List.set_append_right _ _ (by omega), show k - 1 - A.length = 0 by omega]
  rw [List.set_append_right _ _ (by omega), show k - A.length = 1 by omega]
  rfl
theorem nb_gt {l : List Int} {k : Nat} (h1 : 1 ≤ k) (h2 : k < l.length) (g : l[k] < l[k - 1]) : seg l k (k + 1) = swp l k l[k] l[k - 1] := by
  obtain ⟨A, B, e, hA⟩ := two_at h1 h2
  generalize l[k] = b at e g; generalize l[k - 1] = a at e g
  rw [e, seg_two h1 hA, if_pos g, swp_two h1 hA]
theorem nb_le {l : List Int} {k : Nat} (h1 : 1 ≤ k) (h2 : k < l.length) (g : ¬ l[k] < l[k - 1]) : seg l k (k + 1) = l := by
  obtain ⟨A, B, e, hA⟩ := two_at h1 h2
  generalize l[k] = b at e g; generalize l[k - 1] = a at e g
  rw [e, seg_two h1 hA, if_neg g]
theorem swp_len {l : List Int} {k : Nat} {x y : Int} : (swp l k x y).length = l.length := by simp [swp]
theorem nb_back {l : List Int} {k : Nat} (h1 : 1 ≤ k) (h2 : k < l.length) (g : l[k - 1] < l[k]) : seg (swp l k l[k] l[k - 1]) k (k + 1) = l := by
  obtain ⟨A, B, e, hA⟩ := two_at h1 h2
  generalize l[k] = b at e g ⊢; generalize l[k - 1] = a at e g ⊢
  rw [e, swp_two h1 hA, seg_two h1 hA, if_pos g]
theorem swp_perm {l : List Int} {k : Nat} (h1 : 1 ≤ k) (h2 : k < l.length) : (swp l k l[k] l[k - 1]).Perm l := by
  obtain ⟨A, B, e, hA⟩ := two_at h1 h2
  generalize l[k] = b at e ⊢; generalize l[k - 1] = a at e ⊢
  rw [e, swp_two h1 hA]
  exact (List.Perm.swap _ _ _).append_left _
def nbs (l : List Int) (ps : List Nat) : List Int := runM l (ps.map fun k => (k, k + 1))
def Nb (n : Nat) (ps : List Nat) : Prop := ∀ k ∈ ps, 1 ≤ k ∧ k < n
theorem Nb.fits {n : Nat} {ps : List Nat} (h : Nb n ps) : Fits n (ps.map fun k => (k, k + 1)) := fun c hc => by
  obtain ⟨k, hk, rfl⟩ := List.mem_map.mp hc
  have := h k hk
  show 1 ≤ k ∧ k ≤ k + 1 ∧ k + 1 ≤ n
  omega
theorem nbs_cons (l : List Int) (k : Nat) (ps : List Nat) : nbs l (k :: ps) = nbs (seg l k (k + 1)) ps := rfl
theorem nbs_snoc (l : List Int) (k : Nat) (ps : List Nat) : nbs l (ps ++ [k]) = seg (nbs l ps) k (k + 1) := by unfold nbs; rw [List.map_append, runM_app]; rfl
theorem nbs_len {l : List Int} {ps : List Nat} (h : Nb l.length ps) : (nbs l ps).length = l.length := runM_len h.fits
theorem nbs_perm {l : List Int} {ps : List Nat} (h : Nb l.length ps) : (nbs l ps).Perm l := runM_perm _ _ h.fits
/-- the values ahead of place e, all but the one at place pl, do not rise -/
def Ins (l : List Int) (e pl : Nat) : Prop := ∀ a b, a < b → b ≤ e → b ≠ pl → l.getD b 0 ≤ l.getD a 0
def Down (l : List Int) (e : Nat) : Prop := ∀ a b, a < b → b < e → l.getD b 0 ≤ l.getD a 0
theorem swp_get {l : List Int} {k j : Nat} {x y : Int} (h1 : 1 ≤ k) (h2 : k < l.length) : (swp l k x y).getD j 0 = if j = k then y else if j = k - 1 then x else l.getD j 0 := by
  unfold swp
  simp only [List.getD_eq_getElem?_getD, List.getElem?_set, List.length_set]
  by_cases e1 : k = j
  · subst e1; simp [h2]
  · by_cases e2 : k - 1 = j
    · rw [if_neg e1, if_pos e2, if_pos (by omega), if_neg (Ne.symm e1), if_pos e2.symm]; rfl
    · rw [if_neg e1, if_neg e2, if_neg (Ne.symm e1), if_neg (Ne.symm e2)]
theorem getD_at {l : List Int} {k : Nat} (h : k < l.length) : l[k] = l.getD k 0 := by simp [List.getD, h]
theorem ins_step {l : List Int} {e pl : Nat} (h : Ins l e pl) (h1 : 1 ≤ pl) (h2 : pl < l.length) (h3 : pl ≤ e) (g : l[pl - 1] < l[pl]) : Ins (swp l pl l[pl] l[pl - 1]) e (pl - 1) := fun a b hab hb hne => by
  rw [swp_get h1 h2, swp_get h1 h2]
  rw [getD_at h2, getD_at (show pl - 1 < l.length by omega)] at *
  by_cases e1 : b = pl
  · rw [if_pos e1, if_neg (by omega)]
    split
    · omega
    · exact h a (pl - 1) (by omega) (by omega) (by omega)
  · rw [if_neg e1, if_neg hne]
    split
    · exact h (pl - 1) b (by omega) hb e1
    · split
      · exact h pl b (by omega) hb e1
      · exact h a b hab hb e1
theorem ins_done {l : List Int} {e pl : Nat} (h : Ins l e pl) (h2 : pl < l.length) (h3 : pl ≤ e) (g : pl = 0 ∨ ∃ h0 : 1 ≤ pl, ¬ l[pl - 1] < l[pl]) : Down l (e + 1) := fun a b hab hb => by
  by_cases e1 : b = pl
  · subst e1
    rcases g with g | ⟨h0, g⟩
    · omega
    · rw [getD_at h2, getD_at (show b - 1 < l.length by omega)] at g
      by_cases e2 : a = b - 1
      · rw [e2]; omega
      · have := h a (b - 1) (by omega) (by omega) (by omega)
        omega
  · exact h a b hab (by omega) e1
theorem ins_start {l : List Int} {e : Nat} (h : Down l e) : Ins l e e := fun a b hab hb hne => h a b hab (by omega)
def ascN (n : Nat) : List Int := (List.range n).map fun (i : Nat) => (1 + i : Int)
theorem desc_rev (n : Nat) : desc n = (ascN n).reverse := by
  refine List.ext_getElem (by simp [desc, ascN]) fun k h1 h2 => ?_
  have : k < n := by simpa [desc] using h1
  simp [desc, ascN]
  omega
theorem asc_up : ∀ n, (ascN n).Pairwise (· ≤ ·)
  | 0 => List.Pairwise.nil
  | n + 1 => by
    unfold ascN
    rw [List.range_succ, List.map_append]
    refine List.pairwise_append.mpr ⟨asc_up n, List.pairwise_singleton _ _, fun a ha b hb => ?_⟩
    obtain ⟨i, hi, rfl⟩ := List.mem_map.mp ha
    rw [List.map_singleton, List.mem_singleton] at hb
    have := List.mem_range.mp hi
    omega
theorem down_desc {l : List Int} {n : Nat} (hp : l.Perm (ascN n)) (h : Down l n) : l = desc n := by
  rw [desc_rev]
  have hl : l.length = n := by rw [hp.length_eq]; simp [ascN]
  have e : l.reverse = ascN n := up_unique ((List.reverse_perm l).trans hp) (by
    rw [List.pairwise_reverse, List.pairwise_iff_getElem]
    intro i j hi hj hij
    have := h i j hij (by omega)
    rw [← getD_at hi, ← getD_at hj] at this
    exact this) (asc_up n)
  rw [← e, List.reverse_reverse]
theorem desc_perm (n : Nat) : (desc n).Perm (ascN n) := by rw [desc_rev]; exact List.reverse_perm _
/-- each exchange changes the row at its turn -/
def Liv : List Int → List Nat → Prop
  | _, [] => True
  | l, k :: r => seg l k (k + 1) ≠ l ∧ Liv (seg l k (k + 1)) r
/-- the exchange places as they are found: one value sinks in -/
def bub : Nat → List Int → List Nat → List Int × List Nat
  | 0, l, ps => (l, ps)
  | k + 1, l, ps => if l.getD k 0 < l.getD (k + 1) 0 then bub k (swp l (k + 1) (l.getD (k + 1) 0) (l.getD k 0)) (ps ++ [k + 1]) else (l, ps)
def exU (E : List Int) : Nat → List Int × List Nat
  | 0 => (E, [])
  | i + 1 => bub (1 + i) (exU E i).1 (exU E i).2
def exM (E : List Int) : List Nat := (exU E (E.length - 1)).2.reverse
theorem bub_step {l : List Int} {k : Nat} {ps : List Nat} (h1 : 1 ≤ k) (h2 : k < l.length) (g : l[k - 1] < l[k]) : bub k l ps = bub (k - 1) (swp l k l[k] l[k - 1]) (ps ++ [k]) := by
  obtain ⟨j, rfl⟩ : ∃ j, k = j + 1 := ⟨k - 1, by omega⟩
  have a : l.getD j 0 = l[j] := (getD_at (by omega)).symm
  have b : l.getD (j + 1) 0 = l[j + 1] := (getD_at h2).symm
  rw [bub, a, b]
  exact if_pos g
theorem bub_done {l : List Int} {k : Nat} {ps : List Nat} (h2 : k < l.length) (g : k = 0 ∨ ∃ h0 : 1 ≤ k, ¬ l[k - 1] < l[k]) : bub k l ps = (l, ps) := by
  cases k with
  | zero => rfl
  | succ j =>
    rcases g with g | ⟨_, g⟩
    · omega
    have a : l.getD j 0 = l[j] := (getD_at (by omega)).symm
    have b : l.getD (j + 1) 0 = l[j + 1] := (getD_at h2).symm
    rw [bub, a, b]
    exact if_neg g
/-- a row on its way from an effect back to the descending arrangement -/
def Way (E l : List Int) (ps : List Nat) : Prop := l.Perm E ∧ Nb E.length ps ∧ nbs l ps.reverse = E ∧ Liv l ps.reverse
theorem way_nil (E : List Int) : Way E E [] := ⟨List.Perm.refl _, ⟨fun k hk => (by cases hk), rfl, trivial⟩⟩
theorem way_step {E l : List Int} {ps : List Nat} {k : Nat} (h : Way E l ps) (h1 : 1 ≤ k) (h2 : k < l.length) (g : l[k - 1] < l[k]) : Way E (swp l k l[k] l[k - 1]) (ps ++ [k]) := by
  refine ⟨(swp_perm h1 h2).trans h.1, fun j hj => ?_, ?_, ?_⟩
  · rcases List.mem_append.mp hj with z | z
    · exact h.2.1 j z
    · rw [List.mem_singleton.mp z, ← h.1.length_eq]; exact ⟨h1, h2⟩
  · rw [List.reverse_append]
    show nbs (seg (swp l k l[k] l[k - 1]) k (k + 1)) ps.reverse = E
    rw [nb_back h1 h2 g]
    exact h.2.2.1
  · rw [List.reverse_append]
    show seg (swp l k l[k] l[k - 1]) k (k + 1) ≠ swp l k l[k] l[k - 1] ∧ Liv (seg (swp l k l[k] l[k - 1]) k (k + 1)) ps.reverse
    rw [nb_back h1 h2 g]
    refine ⟨fun e => ?_, h.2.2.2⟩
    have e1 := swp_get (l := l) (k := k) (j := k) (x := l[k]) (y := l[k - 1]) h1 h2
    rw [← e, if_pos rfl, ← getD_at h2] at e1
    omega
/-- what stands for any script with an effect -/
def Stand (E : List Int) (ps : List Nat) : Prop := Nb E.length ps ∧ nbs (desc E.length) ps = E
theorem way_end {E l : List Int} {ps : List Nat} {n : Nat} (h : Way E l ps) (hE : E.Perm (ascN n)) (hd : Down l n) : Stand E ps.reverse := by
  have hn : E.length = n := by rw [hE.length_eq]; simp [ascN]
  refine ⟨fun k hk => h.2.1 k (List.mem_reverse.mp hk), ?_⟩
  rw [hn, ← down_desc (h.1.trans hE) hd]
  exact h.2.2.1
theorem way_liv {E l : List Int} {ps : List Nat} {n : Nat} (h : Way E l ps) (hE : E.Perm (ascN n)) (hd : Down l n) : Liv (desc n) ps.reverse := by
  rw [← down_desc (h.1.trans hE) hd]
  exact h.2.2.2
theorem stand_run {E l : List Int} {ps : List Nat} {cs : List Cmd} (h : Stand E ps) (hl : l.length = E.length) (hc : Fits E.length cs) (he : runM (desc E.length) cs = E) : nbs l ps = runM l cs := by
  refine same_eff (hl ▸ h.1.fits) (hl ▸ hc) ?_
  rw [hl, he]
  exact h.2
end My
namespace My
theorem seg_split {l : List Int} {i j : Nat} (h1 : i ≤ j) (h2 : j ≤ l.length) : ∃ A M B, l = A ++ M ++ B ∧ A.length = i - 1 ∧ M.length = j - (i - 1) ∧ seg l i j = A ++ srt M ++ B := by
  refine ⟨l.take (i - 1), (l.drop (i - 1)).take (j - (i - 1)), l.drop j, ?_, by rw [List.length_take]; omega, by rw [List.length_take, List.length_drop]; omega, rfl⟩
  conv => lhs; rw [← List.take_append_drop (i - 1) l, ← List.take_append_drop (j - (i - 1)) (l.drop (i - 1)), List.drop_drop]
  rw [List.append_assoc, show i - 1 + (j - (i - 1)) = j by omega]
theorem srt_id {l : List Int} (h : l.Pairwise (· ≤ ·)) : srt l = l := (srt_is (List.Perm.refl l) h).symm
theorem seg_app {A M B : List Int} {i j : Nat} (hA : A.length = i - 1) (hM : M.length = j - (i - 1)) (h : i ≤ j) : seg (A ++ M ++ B) i j = A ++ srt M ++ B := by
  unfold seg
  have e1 : (A ++ M ++ B).take (i - 1) = A := by rw [List.append_assoc, ← hA, List.take_left]
  have e2 : (A ++ M ++ B).drop (i - 1) = M ++ B := by rw [List.append_assoc, ← hA, List.drop_left]
  have e3 : (A ++ M ++ B).drop j = B := by rw [show j = (A ++ M).length by rw [List.length_append]; omega, List.drop_left]
  rw [e1, e2, e3, ← hM, List.take_left]
theorem step_twice {l : List Int} {c : Cmd} (h1 : c.1 ≤ c.2) (h2 : c.2 ≤ l.length) : step (step l c) c = step l c := by
  unfold step
  obtain ⟨A, M, B, _, hA, hM, e⟩ := seg_split h1 h2
  rw [e, seg_app hA (by rw [srt_len]; exact hM) h1, srt_id (srt_up M)]
end My
namespace My
def less (x : Int) (l : List Int) : Nat := (l.filter (fun y => decide (y < x))).length
def inv : List Int → Nat
  | [] => 0
  | x :: r => less x r + inv r
theorem less_perm {x : Int} {l m : List Int} (h : l.Perm m) : less x l = less x m := (h.filter _).length_eq
theorem less_cons (x y : Int) (r : List Int) : less x (y :: r) = (if y < x then 1 else 0) + less x r := by
  unfold less
  rw [List.filter_cons]
  by_cases h : y < x <;> simp [h]; omega
theorem inv_sorted : ∀ (s : List Int), s.Pairwise (· ≤ ·) → inv s = 0
  | [], _ => rfl
  | x :: r, h => by
    have h1 := List.pairwise_cons.mp h
    show less x r + inv r = 0
    rw [inv_sorted r h1.2]
    have : less x r = 0 := by
      unfold less
      rw [List.length_eq_zero_iff, List.filter_eq_nil_iff]
      intro y hy
      have := h1.1 y hy
      simp; omega
    omega
def invU (ns : List Int) : Nat → Nat
  | 0 => 0
  | i + 1 => invU ns i + less (ns.getD i 0) (ns.drop (i + 1))
theorem invU_cons (x : Int) (r : List Int) : ∀ i, invU (x :: r) (i + 1) = less x r + invU r i
  | 0 => by simp [invU]
  | i + 1 => by
    rw [invU, invU_cons x r i, invU]
    simp
    omega
theorem invU_all : ∀ ns : List Int, invU ns ns.length = inv ns
  | [] => rfl
  | x :: r => by rw [List.length_cons, invU_cons, invU_all r]; rfl
theorem less_le (x : Int) (l : List Int) : less x l ≤ l.length := List.length_filter_le _ _
theorem inv_le : ∀ ns : List Int, inv ns ≤ ns.length * ns.length
  | [] => Nat.le_refl _
  | x :: r => by
    have h1 := less_le x r
    have ih := inv_le r
    show less x r + inv r ≤ (r.length + 1) * (r.length + 1)
    rw [Nat.add_mul, Nat.mul_add, Nat.one_mul, Nat.mul_one]
    omega
def gt (x : Int) (l : List Int) : Nat := (l.filter (fun y => decide (x < y))).length
theorem inv_snoc (x : Int) : ∀ l : List Int, inv (l ++ [x]) = inv l + gt x l
  | [] => rfl
  | y :: r => by
    show less y (r ++ [x]) + inv (r ++ [x]) = less y r + inv r + gt x (y :: r)
    rw [inv_snoc x r]
    have e1 : less y (r ++ [x]) = less y r + if x < y then 1 else 0 := by
      unfold less
      rw [List.filter_append, List.length_append]
      by_cases h : x < y <;> simp [h]
    have e2 : gt x (y :: r) = (if x < y then 1 else 0) + gt x r := by
      unfold gt
      rw [List.filter_cons]
      by_cases h : x < y <;> simp [h]; omega
    omega
def gts (l : List Int) : Nat → List Int
  | 0 => []
  | i + 1 => gts l i ++ [((gt (l.getD i 0) (l.take i) : Nat) : Int)]
theorem gts_len (l : List Int) : ∀ i, (gts l i).length = i
  | 0 => rfl
  | i + 1 => by rw [gts, List.length_append, gts_len l i]; rfl
theorem gts_sum (l : List Int) : ∀ i, i ≤ l.length → (gts l i).sum = ((inv (l.take i) : Nat) : Int)
  | 0, _ => by simp [gts, inv]
  | i + 1, h => by
    have hi : i < l.length := h
    rw [gts, List.sum_append, gts_sum l i (by omega), List.take_add_one, List.getElem?_eq_getElem hi]
    show _ = ((inv (l.take i ++ [l[i]]) : Nat) : Int)
    rw [inv_snoc, show l.getD i 0 = l[i] by simp [List.getD, hi]]
    simp
theorem gt_less {x : Int} : ∀ {l : List Int}, x ∉ l → gt x l + less x l = l.length
  | [], _ => rfl
  | y :: r, h => by
    have h1 := gt_less (x := x) (l := r) (fun q => h (List.mem_cons_of_mem _ q))
    have h2 : x ≠ y := fun q => h (q ▸ List.mem_cons_self)
    rw [less_cons, List.length_cons]
    have e2 : gt x (y :: r) = (if x < y then 1 else 0) + gt x r := by
      unfold gt
      rw [List.filter_cons]
      by_cases h : x < y <;> simp [h]; omega
    rw [e2]
    by_cases h3 : x < y
    · rw [if_pos h3, if_neg (by omega)]; omega
    · rw [if_neg h3, if_pos (by omega)]; omega
theorem gt_perm {x : Int} {l m : List Int} (h : l.Perm m) : gt x l = gt x m := (h.filter _).length_eq
theorem inv_rev : ∀ l : List Int, l.Nodup → 2 * (inv l.reverse + inv l) + l.length = l.length * l.length
  | [], _ => rfl
  | x :: r, h => by
    have h1 := List.nodup_cons.mp h
    have ih := inv_rev r h1.2
    have g := gt_less h1.1
    rw [List.reverse_cons, inv_snoc, gt_perm (List.reverse_perm r), List.length_cons]
    show 2 * (inv r.reverse + gt x r + (less x r + inv r)) + (r.length + 1) = (r.length + 1) * (r.length + 1)
    have e : (r.length + 1) * (r.length + 1) = r.length * r.length + r.length + r.length + 1 := by rw [Nat.succ_mul, Nat.mul_succ]; omega
    rw [e]
    omega
end My
namespace My
def crs (a b : List Int) : Nat := (a.map fun x => less x b).sum
theorem less_app (x : Int) (a b : List Int) : less x (a ++ b) = less x a + less x b := by unfold less; rw [List.filter_append, List.length_append]
theorem inv_app : ∀ (a b : List Int), inv (a ++ b) = inv a + inv b + crs a b
  | [], b => by simp [inv, crs]
  | x :: r, b => by
    show less x (r ++ b) + inv (r ++ b) = less x r + inv r + inv b + ((less x b) + crs r b)
    rw [less_app, inv_app r b]; omega
theorem crs_right {a b c : List Int} (h : b.Perm c) : crs a b = crs a c := by
  unfold crs
  rw [show (fun x => less x b) = fun x => less x c from funext fun x => less_perm h]
theorem crs_left {a b c : List Int} (h : a.Perm b) : crs a c = crs b c := (h.map _).sum_nat
theorem inv_zero : ∀ {l : List Int}, inv l = 0 → l.Pairwise (· ≤ ·)
  | [], _ => List.Pairwise.nil
  | x :: r, h => by
    have h' : less x r + inv r = 0 := h
    refine List.pairwise_cons.mpr ⟨fun y hy => ?_, inv_zero (by omega)⟩
    have h0 : less x r = 0 := by omega
    unfold less at h0
    rw [List.length_eq_zero_iff, List.filter_eq_nil_iff] at h0
    have := h0 y hy
    simp at this; omega
theorem inv_mid (A M B : List Int) : inv (A ++ srt M ++ B) + inv M = inv (A ++ M ++ B) := by
  have p := srt_perm M
  rw [inv_app, inv_app, inv_app (A ++ M), inv_app A M, crs_right p, crs_left (p.append_left A), inv_sorted _ (srt_up M)]
  omega
theorem step_inv {l : List Int} {c : Cmd} (h1 : c.1 ≤ c.2) (h2 : c.2 ≤ l.length) : inv (step l c) ≤ inv l ∧ (inv (step l c) = inv l → step l c = l) := by
  obtain ⟨A, M, B, e, _, _, e2⟩ := seg_split h1 h2
  unfold step
  rw [e2]
  have k := inv_mid A M B
  rw [← e] at k
  refine ⟨by omega, fun q => ?_⟩
  have z : inv M = 0 := by omega
  rw [srt_id (inv_zero z), ← e]
theorem run_inv : ∀ (cs : List Cmd) (l : List Int), Fits l.length cs → inv (runM l cs) ≤ inv l ∧ (inv (runM l cs) = inv l → runM l cs = l)
  | [], _, _ => ⟨Nat.le_refl _, fun _ => rfl⟩
  | c :: r, l, h => by
    have hc := h c List.mem_cons_self
    have a := step_inv (l := l) hc.2.1 hc.2.2
    have hl : (step l c).length = l.length := seg_len hc.2.1 hc.2.2
    have b := run_inv r (step l c) (by rw [hl]; exact fun d hd => h d (List.mem_cons_of_mem _ hd))
    show inv (runM (step l c) r) ≤ inv l ∧ (inv (runM (step l c) r) = inv l → runM (step l c) r = l)
    refine ⟨by omega, fun q => ?_⟩
    have e1 := a.2 (by omega)
    rw [e1] at b q ⊢
    exact b.2 (by omega)
end My
namespace My
theorem liv_at : ∀ (ps : List Nat) (l : List Int) (i : Nat), Liv l ps → i < ps.length → runM l ((ps.map fun k => (k, k + 1)).take (i + 1)) ≠ runM l ((ps.map fun k => (k, k + 1)).take i)
  | k :: r, l, 0, h, _ => h.1
  | k :: r, l, i + 1, h, hi => liv_at r (seg l k (k + 1)) i h.2 (by simpa using hi)
theorem less_two (x y : Int) : inv [x, y] ≤ 1 := by
  show less x [y] + (less y [] + 0) ≤ 1
  have a := less_le x [y]
  have b := less_le y []
  simp at a b
  omega
theorem swap_inv {l : List Int} {k : Nat} (h1 : 1 ≤ k) (h2 : k < l.length) (h : seg l k (k + 1) ≠ l) : inv (seg l k (k + 1)) + 1 = inv l := by
  obtain ⟨A, M, B, e, hA, hM, e2⟩ := seg_split (l := l) (i := k) (j := k + 1) (by omega) (by omega)
  have kk := inv_mid A M B
  rw [← e, ← e2] at kk
  have z : inv M ≠ 0 := fun z => h (by rw [e2, srt_id (inv_zero z), ← e])
  have o : inv M ≤ 1 := by
    match M, hM with
    | [x, y], _ => exact less_two x y
    | [], hM => simp at hM; omega
    | [x], hM => simp at hM; omega
    | x :: y :: w :: r, hM => simp at hM; omega
  omega
theorem liv_inv : ∀ (ps : List Nat) (l : List Int), Nb l.length ps → Liv l ps → inv (nbs l ps) + ps.length = inv l
  | [], l, _, _ => rfl
  | k :: r, l, hn, h => by
    have hk := hn k List.mem_cons_self
    have a := swap_inv hk.1 hk.2 h.1
    have hl : (seg l k (k + 1)).length = l.length := seg_len (by omega) (by omega)
    have b := liv_inv r (seg l k (k + 1)) (by rw [hl]; exact fun j hj => hn j (List.mem_cons_of_mem _ hj)) h.2
    show inv (nbs (seg l k (k + 1)) r) + (r.length + 1) = inv l
    omega
theorem asc_nodup (n : Nat) : (ascN n).Nodup := by
  have : (desc n).Nodup := by
    unfold desc
    exact List.Pairwise.map _ (fun (a b : Nat) (h : a ≠ b) => show ((n : Int) - (a : Nat)) ≠ ((n : Int) - (b : Nat)) by omega) List.nodup_range
  exact (desc_perm n).nodup_iff.mp this
theorem desc_inv (n : Nat) : 2 * inv (desc n) + n = n * n := by
  have a := inv_rev (ascN n) (asc_nodup n)
  rw [← desc_rev, inv_sorted _ (asc_up n)] at a
  simpa [ascN] using a
/-- the pairs in ascending order -/
def asc : List Int → Nat
  | [] => 0
  | x :: r => gt x r + asc r
/-- the pairs whose earlier place is one of the first so many -/
def ascU (ns : List Int) : Nat → Nat
  | 0 => 0
  | i + 1 => ascU ns i + gt (ns.getD i 0) (ns.drop (i + 1))
theorem ascU_cons (x : Int) (r : List Int) : ∀ i, ascU (x :: r) (i + 1) = gt x r + ascU r i
  | 0 => by unfold ascU; simp [ascU]
  | i + 1 => by
    have := ascU_cons x r i
    show ascU (x :: r) (i + 1) + _ = gt x r + (ascU r i + _)
    rw [this]
    simp [Nat.add_assoc]
theorem ascU_all : ∀ ns : List Int, ascU ns ns.length = asc ns
  | [] => rfl
  | x :: r => by
    show ascU (x :: r) (r.length + 1) = _
    rw [ascU_cons, ascU_all r]; rfl
theorem asc_inv : ∀ l : List Int, l.Nodup → 2 * (asc l + inv l) + l.length = l.length * l.length
  | [], _ => rfl
  | x :: r, h => by
    have h' := List.nodup_cons.mp h
    have a := asc_inv r h'.2
    have b := gt_less h'.1
    show 2 * ((gt x r + asc r) + (less x r + inv r)) + (r.length + 1) = (r.length + 1) * (r.length + 1)
    have e : (r.length + 1) * (r.length + 1) = r.length * r.length + 2 * r.length + 1 := by rw [Nat.mul_add, Nat.add_mul]; omega
    omega
/-- as many as an exchange is needed for -/
theorem asc_count {E : List Int} {n : Nat} {ps : List Nat} (hE : E.Perm (ascN n)) (h : Stand E ps) (hl : Liv (desc n) ps) : ps.length = asc E ∧ 2 * (inv E + ps.length) + n = n * n := by
  have hn : E.length = n := by rw [hE.length_eq]; simp [ascN]
  have a := liv_inv ps (desc n) (by rw [desc_len, ← hn]; exact h.1) hl
  have b := desc_inv n
  have c := asc_inv E (hE.nodup_iff.mpr (asc_nodup n))
  have e := h.2
  rw [hn] at e c
  rw [e] at a
  constructor <;> omega
end My
namespace My
/-- the values at the places of a command, falling -/
def dstep (l : List Int) (c : Cmd) : List Int := l.take (c.1 - 1) ++ (srt ((l.drop (c.1 - 1)).take (c.2 - (c.1 - 1)))).reverse ++ l.drop c.2
theorem dstep_perm {l : List Int} {c : Cmd} (h1 : c.1 ≤ c.2) (h2 : c.2 ≤ l.length) : (dstep l c).Perm l := by
  unfold dstep
  have e : l = l.take (c.1 - 1) ++ (l.drop (c.1 - 1)).take (c.2 - (c.1 - 1)) ++ l.drop c.2 := by
    conv => lhs; rw [← List.take_append_drop (c.1 - 1) l, ← List.take_append_drop (c.2 - (c.1 - 1)) (l.drop (c.1 - 1)), List.drop_drop]
    rw [List.append_assoc, show c.1 - 1 + (c.2 - (c.1 - 1)) = c.2 by omega]
  conv => rhs; rw [e]
  exact (((List.reverse_perm _).trans (srt_perm _)).append_left _).append_right _
def backR (rs : List Cmd) (l : List Int) : List Int := rs.foldl dstep l
def backM (cs : List Cmd) (l : List Int) : List Int := backR cs.reverse l
theorem backR_perm : ∀ (rs : List Cmd) (l : List Int), Fits l.length rs → (backR rs l).Perm l
  | [], l, _ => List.Perm.refl l
  | c :: r, l, h => by
    have hc := h c List.mem_cons_self
    have p := dstep_perm hc.2.1 hc.2.2
    refine List.Perm.trans (backR_perm r (dstep l c) ?_) p
    rw [p.length_eq]
    exact fun d hd => h d (List.mem_cons_of_mem _ hd)
theorem Fits.rev {n : Nat} {cs : List Cmd} (h : Fits n cs) : Fits n cs.reverse := fun c hc => h c (List.mem_reverse.mp hc)
theorem backM_perm {cs : List Cmd} {l : List Int} (h : Fits l.length cs) : (backM cs l).Perm l := backR_perm _ _ h.rev
theorem backR_snoc (l : List Int) (cs : List Cmd) (c : Cmd) : backR (cs ++ [c]) l = dstep (backR cs l) c := by unfold backR; rw [List.foldl_append]; rfl
theorem down_is {l m : List Int} (h : m.Perm l) (u : m.Pairwise (· ≥ ·)) : m = (srt l).reverse := by
  have := srt_is (l := l) (m := m.reverse) ((List.reverse_perm m).trans h) (List.pairwise_reverse.mpr u)
  rw [← this, List.reverse_reverse]
theorem srt_eq {l m : List Int} (h : l.Perm m) : srt l = srt m := srt_is ((srt_perm l).trans h) (srt_up l)
theorem srt_run {l : List Int} {cs : List Cmd} (h : Fits l.length cs) : srt (runM l cs) = srt l := srt_eq (runM_perm cs l h)
/-- the value behind the first descent -/
def witM : List Int → Option Int
  | [] => none
  | [_] => none
  | x :: y :: r => if y < x then some y else witM (y :: r)
theorem wit_none : ∀ {l : List Int}, witM l = none → l.Pairwise (· ≤ ·)
  | [], _ => List.Pairwise.nil
  | [x], _ => List.pairwise_singleton _ _
  | x :: y :: r, h => by
    unfold witM at h
    split at h
    · cases h
    · rename_i g
      have ih := wit_none h
      refine List.pairwise_cons.mpr ⟨fun z hz => ?_, ih⟩
      rcases List.mem_cons.mp hz with e | e
      · rw [e]; omega
      · have := (List.pairwise_cons.mp ih).1 z e; omega
theorem wit_some : ∀ {l : List Int} {v : Int}, witM l = some v → ¬ (l.map fun x => if v < x then (1 : Int) else 0).Pairwise (· ≤ ·)
  | x :: y :: r, v, h => by
    unfold witM at h
    intro hp
    rw [List.map_cons] at hp
    have hp1 := List.pairwise_cons.mp hp
    split at h
    · rename_i g
      cases h
      have := hp1.1 _ (List.mem_map.mpr ⟨y, List.mem_cons_self, rfl⟩)
      rw [if_pos g, if_neg (by omega)] at this
      omega
    · exact wit_some h hp1.2
theorem wit_up {l : List Int} (h : l.Pairwise (· ≤ ·)) : witM l = none := by
  cases e : witM l with
  | none => rfl
  | some v =>
    refine absurd ?_ (wit_some e)
    rw [List.pairwise_map]
    exact h.imp fun {a b} hab => by split <;> split <;> omega
theorem wit_sorted {l : List Int} : witM l = none ↔ l = srt l := ⟨fun h => srt_is (List.Perm.refl _) (wit_none h), fun h => wit_up (h ▸ srt_up l)⟩
/-- sorting heeds the order alone -/
theorem srt_map {f : Int → Int} (hf : ∀ a b, a ≤ b → f a ≤ f b) (l : List Int) : srt (l.map f) = (srt l).map f :=
  (srt_is ((srt_perm l).map f) (List.pairwise_map.mpr ((srt_up l).imp fun {a b} h => hf a b h))).symm
theorem step_map {f : Int → Int} (hf : ∀ a b, a ≤ b → f a ≤ f b) (l : List Int) (c : Cmd) : step (l.map f) c = (step l c).map f := by
  unfold step seg
  rw [List.map_append, List.map_append, ← List.map_drop, ← List.map_take, ← List.map_take, ← List.map_drop, srt_map hf]
theorem run_map {f : Int → Int} (hf : ∀ a b, a ≤ b → f a ≤ f b) : ∀ (cs : List Cmd) (l : List Int), runM (l.map f) cs = (runM l cs).map f
  | [], _ => rfl
  | c :: r, l => by
    show runM (step (l.map f) c) r = (runM (step l c) r).map f
    rw [step_map hf, run_map hf r]
theorem bit_mono (v : Int) : ∀ a b : Int, a ≤ b → (if v < a then (1 : Int) else 0) ≤ if v < b then 1 else 0 := fun a b h => by split <;> split <;> omega
end My
namespace My
theorem most_zc {a b : List Int} : AtMost a b ↔ ∀ p q : Nat, zc b q p ≤ zc a q p := by
  unfold AtMost cnt zc
  simp only [List.countP_eq_length_filter]
theorem zc_low {l : List Int} {t : Int} (h : ∀ v ∈ l, 1 ≤ v) (ht : t < 1) (p : Nat) : zc l t p = 0 := List.countP_eq_zero.mpr fun v hv => by
  have := h v (List.mem_of_mem_take hv)
  simp; omega
theorem zc_rev {s : List Int} (t : Int) (h : s.Pairwise (· ≤ ·)) {k : Nat} (hk : k ≤ s.length) : zc s.reverse t k = s.countP (fun v => decide (v ≤ t)) - (s.length - k) := by
  have e : zc s.reverse t k = (s.drop (s.length - k)).countP (fun v => decide (v ≤ t)) := by
    unfold zc
    rw [List.take_reverse, List.countP_reverse]
  have e2 : (s.take (s.length - k)).countP (fun v => decide (v ≤ t)) + (s.drop (s.length - k)).countP (fun v => decide (v ≤ t)) = s.countP (fun v => decide (v ≤ t)) := by
    rw [← List.countP_append, List.take_append_drop]
  have e3 := up_zc t s (s.length - k) h
  unfold zc at e3
  have e4 : (s.drop (s.length - k)).countP (fun v => decide (v ≤ t)) ≤ k := Nat.le_trans List.countP_le_length (by rw [List.length_drop]; omega)
  rw [e]
  omega
theorem zc_dseg {l : List Int} {c : Cmd} (h1 : 1 ≤ c.1) (h2 : c.1 ≤ c.2) (h3 : c.2 ≤ l.length) (t : Int) (p : Nat) :
    zc (dstep l c) t p = if p < c.1 ∨ c.2 < p then zc l t p else max (zc l t (c.1 - 1)) (zc l t c.2 - (c.2 - p)) := by
  obtain ⟨i, j⟩ := c
  simp only at h1 h2 h3 ⊢
  obtain ⟨A, M, B, rfl, hA, hM⟩ : ∃ A M B, l = A ++ M ++ B ∧ A.length = i - 1 ∧ M.length = j - (i - 1) := by
    refine ⟨l.take (i - 1), (l.drop (i - 1)).take (j - (i - 1)), l.drop j, ?_, by rw [List.length_take]; omega, by rw [List.length_take, List.length_drop]; omega⟩
    conv => lhs; rw [← List.take_append_drop (i - 1) l, ← List.take_append_drop (j - (i - 1)) (l.drop (i - 1)), List.drop_drop]
    rw [List.append_assoc, show i - 1 + (j - (i - 1)) = j by omega]
  have e : dstep (A ++ M ++ B) (i, j) = A ++ (srt M).reverse ++ B := by
    unfold dstep
    simp only
    have e1 : (A ++ M ++ B).take (i - 1) = A := by rw [List.append_assoc, ← hA, List.take_left]
    have e2 : (A ++ M ++ B).drop (i - 1) = M ++ B := by rw [List.append_assoc, ← hA, List.drop_left]
    have e3 : (A ++ M ++ B).drop j = B := by rw [show j = (A ++ M).length by rw [List.length_append]; omega, List.drop_left]
    rw [e1, e2, e3, ← hM, List.take_left]
  rw [e]
  have hs : (srt M).length = M.length := srt_len M
  have cM : (srt M).countP (fun v => decide (v ≤ t)) = M.countP (fun v => decide (v ≤ t)) := (srt_perm M).countP_eq _
  simp only [zc_app, List.length_append, List.length_reverse, hs, hA, hM]
  rw [zc_all (l := A) (p := j) (by omega), zc_all (l := M) (p := j - (i - 1)) (by omega), show j - (i - 1 + (j - (i - 1))) = 0 by omega]
  rw [zc_all (l := A) (p := i - 1) (by omega), show i - 1 - (i - 1) = 0 by omega, show i - 1 - (i - 1 + (j - (i - 1))) = 0 by omega]
  have z0 : ∀ b : List Int, zc b t 0 = 0 := fun b => by simp [zc]
  rw [z0, z0]
  have hle := List.countP_le_length (p := fun v => decide (v ≤ t)) (l := M)
  by_cases g : p < i ∨ j < p
  · rw [if_pos g]
    rcases g with g | g
    · rw [show p - (i - 1) = 0 by omega]; rw [z0, z0]
    · rw [zc_all (l := M) (p := p - (i - 1)) (by omega), zc_all (l := (srt M).reverse) (p := p - (i - 1)) (by rw [List.length_reverse]; omega), List.countP_reverse, cM]
  · rw [if_neg g, zc_all (l := A) (p := p) (by omega), show p - (i - 1 + (j - (i - 1))) = 0 by omega, z0, zc_rev t (srt_up M) (by omega), cM, hs]
    omega
theorem most_refl (a : List Int) : AtMost a a := fun p q => Nat.le_refl _
theorem most_trans {a b c : List Int} (h : AtMost a b) (g : AtMost b c) : AtMost a c := fun p q => Nat.le_trans (g p q) (h p q)
theorem step_mono {l m : List Int} {c : Cmd} (h1 : 1 ≤ c.1) (h2 : c.1 ≤ c.2) (h3 : c.2 ≤ l.length) (h4 : c.2 ≤ m.length) (h : AtMost l m) : AtMost (step l c) (step m c) := by
  rw [most_zc] at h ⊢
  intro p q
  have e1 : zc (step l c) q p = _ := zc_seg (l := l) h1 h2 h3 q p
  have e2 : zc (step m c) q p = _ := zc_seg (l := m) h1 h2 h4 q p
  rw [e1, e2]
  have a1 := h p q
  have a2 := h (c.1 - 1) q
  have a3 := h c.2 q
  split <;> omega
theorem step_le {l : List Int} {c : Cmd} (h1 : 1 ≤ c.1) (h2 : c.1 ≤ c.2) (h3 : c.2 ≤ l.length) : AtMost (step l c) l := by
  rw [most_zc]
  intro p q
  have e1 : zc (step l c) q p = _ := zc_seg (l := l) h1 h2 h3 q p
  rw [e1]
  split
  · exact Nat.le_refl _
  · rename_i g
    have m1 := zc_mono (l := l) (t := q) (p := c.1 - 1) (p - (c.1 - 1))
    have m2 := zc_mono (l := l) (t := q) (p := p) (c.2 - p)
    rw [show c.1 - 1 + (p - (c.1 - 1)) = p by omega] at m1
    rw [show p + (c.2 - p) = c.2 by omega] at m2
    omega
theorem gal_step {l m : List Int} {c : Cmd} (h1 : 1 ≤ c.1) (h2 : c.1 ≤ c.2) (h3 : c.2 ≤ l.length) (h4 : c.2 ≤ m.length) : AtMost (step l c) m ↔ AtMost l (dstep m c) := by
  rw [most_zc, most_zc]
  have e1 : ∀ (q p : Nat), zc (step l c) q p = _ := fun q p => zc_seg (l := l) h1 h2 h3 q p
  have e2 : ∀ (q p : Nat), zc (dstep m c) q p = _ := fun q p => zc_dseg (l := m) h1 h2 h4 q p
  constructor
  · intro h p q
    rw [e2]
    have a0 := h p q
    have a1 := h (c.1 - 1) q
    have a2 := h c.2 q
    rw [e1] at a0 a1 a2
    rw [if_pos (by omega)] at a1
    rw [if_neg (by omega)] at a2
    split
    · rename_i g
      rw [if_pos g] at a0
      exact a0
    · rename_i g
      have m1 := zc_mono (l := l) (t := q) (p := c.1 - 1) (p - (c.1 - 1))
      have m2 := zc_mono (l := l) (t := q) (p := p) (c.2 - p)
      rw [show c.1 - 1 + (p - (c.1 - 1)) = p by omega] at m1
      rw [show p + (c.2 - p) = c.2 by omega] at m2
      omega
  · intro h p q
    rw [e1]
    have a0 := h p q
    have a1 := h (c.1 - 1) q
    have a2 := h c.2 q
    rw [e2] at a0 a1 a2
    rw [if_pos (by omega)] at a1
    rw [if_neg (by omega)] at a2
    split
    · rename_i g
      rw [if_pos g] at a0
      exact a0
    · rename_i g
      have m1 := zc_mono (l := m) (t := q) (p := c.1 - 1) (p - (c.1 - 1))
      have m2 := zc_mono (l := m) (t := q) (p := p) (c.2 - p)
      rw [show c.1 - 1 + (p - (c.1 - 1)) = p by omega] at m1
      rw [show p + (c.2 - p) = c.2 by omega] at m2
      omega
theorem back_cons (c : Cmd) (r : List Cmd) (m : List Int) : backM (c :: r) m = dstep (backM r m) c := by
  unfold backM
  rw [List.reverse_cons, backR_snoc]
theorem back_app (a b : List Cmd) (m : List Int) : backM (a ++ b) m = backM a (backM b m) := by
  unfold backM backR
  rw [List.reverse_append, List.foldl_append]
theorem gal_run : ∀ (cs : List Cmd) {l m : List Int}, l.length = m.length → Fits m.length cs → (AtMost (runM l cs) m ↔ AtMost l (backM cs m))
  | [], _, _, _, _ => Iff.rfl
  | c :: r, l, m, hl, h => by
    have hc := h c List.mem_cons_self
    have hr : Fits m.length r := fun d hd => h d (List.mem_cons_of_mem _ hd)
    have hb : (backM r m).length = m.length := (backM_perm hr).length_eq
    have hs : (step l c).length = l.length := seg_len hc.2.1 (by omega)
    show AtMost (runM (step l c) r) m ↔ _
    rw [gal_run r (by rw [hs, hl]) hr, back_cons, gal_step hc.1 hc.2.1 (by omega) (by omega)]
theorem run_mono : ∀ (cs : List Cmd) {l m : List Int}, l.length = m.length → Fits m.length cs → AtMost l m → AtMost (runM l cs) (runM m cs)
  | [], _, _, _, _, h => h
  | c :: r, l, m, hl, hf, h => by
    have hc := hf c List.mem_cons_self
    have hs : (step l c).length = l.length := seg_len hc.2.1 (by omega)
    have hs2 : (step m c).length = m.length := seg_len hc.2.1 hc.2.2
    exact run_mono r (by rw [hs, hs2, hl]) (by rw [hs2]; exact fun d hd => hf d (List.mem_cons_of_mem _ hd)) (step_mono hc.1 hc.2.1 (by omega) (by omega) h)
theorem run_le : ∀ (cs : List Cmd) {l : List Int}, Fits l.length cs → AtMost (runM l cs) l
  | [], l, _ => most_refl l
  | c :: r, l, hf => by
    have hc := hf c List.mem_cons_self
    have hs : (step l c).length = l.length := seg_len hc.2.1 hc.2.2
    exact most_trans (run_le r (by rw [hs]; exact fun d hd => hf d (List.mem_cons_of_mem _ hd))) (step_le hc.1 hc.2.1 hc.2.2)
theorem perm_pos {l : List Int} {n : Nat} (h : l.Perm (ascN n)) : ∀ v ∈ l, 1 ≤ v := fun v hv => by
  obtain ⟨k, _, rfl⟩ := List.mem_map.mp (h.mem_iff.mp hv)
  omega
theorem most_anti {a b : List Int} {n : Nat} (ha : a.Perm (ascN n)) (hb : b.Perm (ascN n)) (h : AtMost a b) (g : AtMost b a) : a = b := by
  rw [most_zc] at h g
  refine zc_ext (ha.length_eq.trans hb.length_eq.symm) fun t p _ => ?_
  by_cases ht : t < 1
  · rw [zc_low (perm_pos ha) ht, zc_low (perm_pos hb) ht]
  · obtain ⟨q, rfl⟩ := Int.eq_ofNat_of_zero_le (show 0 ≤ t by omega)
    exact Nat.le_antisymm (g p q) (h p q)
theorem asc_least {m : List Int} {n : Nat} (h : m.Perm (ascN n)) : AtMost (ascN n) m := by
  rw [most_zc]
  intro p q
  rw [up_zc (q : Int) (ascN n) p (asc_up n), ← h.countP_eq]
  refine Nat.le_min.mpr ⟨zc_le m q p, ?_⟩
  exact (List.take_sublist p m).countP_le
theorem least_is {m : List Int} {n : Nat} (h : m.Perm (ascN n)) (g : AtMost m (ascN n)) : m = ascN n := most_anti h (List.Perm.refl _) g (asc_least h)
theorem ascN_length' (n : Nat) : (ascN n).length = n := by simp [ascN]
theorem run_perm_n {l : List Int} {n : Nat} {cs : List Cmd} (h : l.Perm (ascN n)) (hf : Fits n cs) : (runM l cs).Perm (ascN n) := (runM_perm cs l (by rw [h.length_eq, ascN_length']; exact hf)).trans h
theorem back_perm_n {l : List Int} {n : Nat} {cs : List Cmd} (h : l.Perm (ascN n)) (hf : Fits n cs) : (backM cs l).Perm (ascN n) := (backM_perm (by rw [h.length_eq, ascN_length']; exact hf)).trans h
theorem perm_len {l : List Int} {n : Nat} (h : l.Perm (ascN n)) : l.length = n := by rw [h.length_eq, ascN_length']
/-- a row gets sorted exactly if it is at most the greatest row that does -/
theorem sorted_iff {l : List Int} {n : Nat} {cs : List Cmd} (h : l.Perm (ascN n)) (hf : Fits n cs) : runM l cs = ascN n ↔ AtMost l (backM cs (ascN n)) := by
  rw [← gal_run cs (by rw [perm_len h, ascN_length']) (by rw [ascN_length']; exact hf)]
  exact ⟨fun e => e ▸ most_refl _, fun g => least_is (run_perm_n h hf) g⟩
/-- the greatest row before a row is led to at most it -/
theorem back_run {m : List Int} {n : Nat} {cs : List Cmd} (h : m.Perm (ascN n)) (hf : Fits n cs) : AtMost (runM (backM cs m) cs) m :=
  (gal_run cs (by rw [perm_len (back_perm_n h hf), perm_len h]) (by rw [perm_len h]; exact hf)).mpr (most_refl _)
theorem to_back {l : List Int} {n : Nat} {cs : List Cmd} (h : l.Perm (ascN n)) (hf : Fits n cs) : AtMost l (backM cs (runM l cs)) := by
  have hl := perm_len (run_perm_n h hf)
  exact (gal_run cs (by rw [hl, perm_len h]) (by rw [hl]; exact hf)).mp (most_refl _)
/-- what a script made is made of the greatest row before it -/
theorem made_back {l : List Int} {n : Nat} {cs : List Cmd} (h : l.Perm (ascN n)) (hf : Fits n cs) : runM (backM cs (runM l cs)) cs = runM l cs := by
  have hr := run_perm_n h hf
  have hb := back_perm_n hr hf
  refine most_anti (run_perm_n hb hf) hr (back_run hr hf) ?_
  exact run_mono cs (by rw [perm_len h, perm_len hb]) (by rw [perm_len hb]; exact hf) (to_back h hf)
theorem back_mono {l m : List Int} {n : Nat} {cs : List Cmd} (h : l.Perm (ascN n)) (g : m.Perm (ascN n)) (hf : Fits n cs) (a : AtMost l m) : AtMost (backM cs l) (backM cs m) := by
  have hb := back_perm_n h hf
  refine (gal_run cs (by rw [perm_len hb, perm_len g]) (by rw [perm_len g]; exact hf)).mp (most_trans (back_run h hf) a)
/-- every arrangement is at most the falling one -/
theorem desc_most {m : List Int} {n : Nat} (h : m.Perm (ascN n)) : AtMost m (desc n) := by
  have hl := perm_len h
  refine (most_iff (arr_asc h) (arr_asc (desc_perm n)) (by rw [hl, desc_len])).mpr fun p hp q hq => ?_
  rw [hl] at hp hq
  have cz : ∀ (l : List Int), cnt l p q = zc l q p := fun l => by unfold cnt zc; rw [List.countP_eq_length_filter]
  rw [cz, cz]
  have eq' : ((n : Int) - ((n - q : Nat) : Int)) = (q : Int) := by omega
  have d1 := zc_desc (n := n) (n - q) (by omega) p hp
  have d2 := zc_desc (n := n) (n - q) (by omega) n (Nat.le_refl _)
  rw [eq'] at d1 d2
  have e1 : zc m q n = zc (desc n) q n := by
    rw [zc_all (by rw [hl]; exact Nat.le_refl _), zc_all (by rw [desc_len]; exact Nat.le_refl _), (h.trans (desc_perm n).symm).countP_eq]
  have m1 := (zc_mono (l := m) (t := q) (p := p) (n - p)).2
  rw [show p + (n - p) = n by omega] at m1
  omega
/-- a script whose effect is at most another one's leads all rows to at most what the other one does -/
theorem eff_most {l : List Int} {n : Nat} {cs ds : List Cmd} (hl : l.length = n) (hc : Fits n cs) (hd : Fits n ds) (h : AtMost (runM (desc n) cs) (runM (desc n) ds)) : AtMost (runM l cs) (runM l ds) := by
  have a := told_run (n := n) (l0 := l) cs l (desc n) hc (by have := told_nil (l := l); rwa [hl] at this)
  have b := told_run (n := n) (l0 := l) ds l (desc n) hd (by have := told_nil (l := l); rwa [hl] at this)
  rw [most_zc] at h ⊢
  have key : ∀ p, p ≤ n → ∀ q : Nat, zc (runM l ds) q p ≤ zc (runM l cs) q p := fun p hp q => by
    obtain ⟨k, hk, e1⟩ := (a.2.2 q p hp).2
    have e2 := (b.2.2 q p hp).1 k hk
    have e3 := h p (n - k)
    rw [show (((n - k : Nat) : Nat) : Int) = (n : Int) - (k : Int) by omega] at e3
    omega
  intro p q
  by_cases hp : p ≤ n
  · exact key p hp q
  · have := key n (Nat.le_refl _) q
    rw [zc_all (l := runM l ds) (p := p) (by rw [b.1]; omega), zc_all (l := runM l cs) (p := p) (by rw [a.1]; omega)]
    rw [zc_all (l := runM l ds) (p := n) (by rw [b.1]; exact Nat.le_refl _), zc_all (l := runM l cs) (p := n) (by rw [a.1]; exact Nat.le_refl _)] at this
    exact this
theorem srt_asc {l : List Int} {n : Nat} (h : l.Perm (ascN n)) : srt l = ascN n := (srt_is h.symm (asc_up n)).symm
end My
namespace My
/-- the places, from 1 on, at which two rows differ -/
def difU (a b : List Int) (m : Nat) : List Nat := ((List.range m).filter fun i => decide (a.getD i 0 ≠ b.getD i 0)).map (· + 1)
def dif (a b : List Int) : List Nat := difU a b a.length
def chgM (a b : List Int) : Cmd := ((dif a b).headD 0, (dif a b).getLastD 0)
theorem difU_len (a b : List Int) (m : Nat) : (difU a b m).length ≤ m := by
  unfold difU
  rw [List.length_map]
  exact Nat.le_trans (List.length_filter_le _ _) (by rw [List.length_range]; exact Nat.le_refl _)
theorem difU_yes {a b : List Int} {m : Nat} (h : a.getD m 0 ≠ b.getD m 0) : difU a b (m + 1) = difU a b m ++ [m + 1] := by
  unfold difU
  rw [List.range_succ, List.filter_append, List.filter_cons_of_pos (by rw [decide_eq_true h]), List.map_append]; rfl
theorem difU_no {a b : List Int} {m : Nat} (h : ¬ a.getD m 0 ≠ b.getD m 0) : difU a b (m + 1) = difU a b m := by
  unfold difU
  rw [List.range_succ, List.filter_append, List.filter_cons_of_neg (by rw [decide_eq_false h]; simp)]; simp
theorem dif_mem {a b : List Int} {k : Nat} : k ∈ dif a b ↔ ∃ i, i < a.length ∧ a.getD i 0 ≠ b.getD i 0 ∧ k = i + 1 := by
  unfold dif difU
  rw [List.mem_map]
  constructor
  · rintro ⟨i, hi, rfl⟩
    obtain ⟨h1, h2⟩ := List.mem_filter.mp hi
    exact ⟨i, List.mem_range.mp h1, of_decide_eq_true h2, rfl⟩
  · rintro ⟨i, h1, h2, rfl⟩
    exact ⟨i, List.mem_filter.mpr ⟨List.mem_range.mpr h1, decide_eq_true h2⟩, rfl⟩
theorem dif_ne {a b : List Int} (hl : a.length = b.length) (h : a ≠ b) : dif a b ≠ [] := by
  intro e
  refine h (List.ext_getElem hl fun i h1 h2 => Classical.byContradiction fun g => ?_)
  have : i + 1 ∈ dif a b := dif_mem.mpr ⟨i, h1, by simpa [List.getD, h1, h2] using g, rfl⟩
  rw [e] at this; cases this
theorem dif_self (a : List Int) : dif a a = [] := by
  unfold dif difU
  rw [List.map_eq_nil_iff, List.filter_eq_nil_iff]
  intro i _; simp
theorem dif_nil {a b : List Int} (hl : a.length = b.length) : dif a b = [] ↔ a = b :=
  ⟨fun e => Classical.byContradiction fun h => dif_ne hl h e, fun e => by rw [e]; exact dif_self b⟩
end My
namespace My
theorem bub_way {E : List Int} {e : Nat} : ∀ (k : Nat) (l : List Int) (ps : List Nat), Way E l ps → Ins l e k → k ≤ e → e < l.length → Way E (bub k l ps).1 (bub k l ps).2 ∧ Down (bub k l ps).1 (e + 1)
  | 0, l, ps, h, hi, hk, hl => by
    rw [bub_done (l := l) (ps := ps) (by omega) (.inl rfl)]
    show Way E l ps ∧ Down l (e + 1)
    exact ⟨h, ins_done hi (by omega) hk (.inl rfl)⟩
  | k + 1, l, ps, h, hi, hk, hl => by
    by_cases g : l[k + 1 - 1]'(by omega) < l[k + 1]
    · rw [bub_step (by omega) (by omega) g]
      exact bub_way k _ _ (way_step h (by omega) (by omega) g) (ins_step hi (by omega) (by omega) hk g) (by omega) (by rw [swp_len]; exact hl)
    · rw [bub_done (l := l) (ps := ps) (by omega) (.inr ⟨by omega, g⟩)]
      show Way E l ps ∧ Down l (e + 1)
      exact ⟨h, ins_done hi (by omega) hk (.inr ⟨by omega, g⟩)⟩
theorem exU_way {E : List Int} : ∀ i, i < E.length → Way E (exU E i).1 (exU E i).2 ∧ Down (exU E i).1 (i + 1)
  | 0, _ => ⟨way_nil E, fun a b h1 h2 => by omega⟩
  | i + 1, h => by
    obtain ⟨w, d⟩ := exU_way (E := E) i (by omega)
    have hl := w.1.length_eq
    show Way E (bub (1 + i) (exU E i).1 (exU E i).2).1 (bub (1 + i) (exU E i).1 (exU E i).2).2 ∧ Down (bub (1 + i) (exU E i).1 (exU E i).2).1 (i + 1 + 1)
    rw [show 1 + i = i + 1 by omega]
    exact bub_way (i + 1) _ _ w (ins_start d) (Nat.le_refl _) (by omega)
theorem stand_ex {E : List Int} {n : Nat} (hE : E.Perm (ascN n)) (hn : 1 ≤ n) : Stand E (exM E) ∧ Liv (desc n) (exM E) := by
  have hl := perm_len hE
  obtain ⟨w, d⟩ := exU_way (E := E) (E.length - 1) (by omega)
  have d' : Down (exU E (E.length - 1)).1 n := fun a b h1 h2 => d a b h1 (by omega)
  exact ⟨way_end w hE d', way_liv w hE d'⟩
/-- each value counted from the other end -/
def mir (n : Nat) (l : List Int) : List Int := l.map fun v => (n : Int) + 1 - v
theorem mir_mir (n : Nat) (l : List Int) : mir n (mir n l) = l := by
  unfold mir
  rw [List.map_map]
  conv => rhs; rw [← List.map_id l]
  exact List.map_congr_left fun v _ => by show (n : Int) + 1 - ((n : Int) + 1 - v) = v; omega
theorem mir_len (n : Nat) (l : List Int) : (mir n l).length = l.length := by simp [mir]
theorem mir_asc (n : Nat) : mir n (ascN n) = desc n := by
  unfold mir ascN desc
  rw [List.map_map]
  exact List.map_congr_left fun k _ => by show (n : Int) + 1 - (1 + (k : Int)) = (n : Int) - k; omega
theorem mir_desc (n : Nat) : mir n (desc n) = ascN n := by rw [← mir_asc, mir_mir]
theorem mir_perm {n : Nat} {l : List Int} (h : l.Perm (ascN n)) : (mir n l).Perm (ascN n) := by
  have : (mir n l).Perm (mir n (ascN n)) := h.map _
  rw [mir_asc] at this
  exact this.trans (desc_perm n)
theorem srt_mir (n : Nat) (l : List Int) : srt (mir n l) = mir n (srt l).reverse := by
  refine (srt_is ?_ ?_).symm
  · exact ((List.reverse_perm _).trans (srt_perm l)).map _
  · unfold mir
    rw [List.pairwise_map, List.pairwise_reverse]
    exact (srt_up l).imp fun {a b} h => by omega
theorem step_mir (n : Nat) (l : List Int) (c : Cmd) : step (mir n l) c = mir n (dstep l c) := by
  unfold step seg dstep
  have e1 : (mir n l).take (c.1 - 1) = mir n (l.take (c.1 - 1)) := by simp [mir]
  have e2 : ((mir n l).drop (c.1 - 1)).take (c.2 - (c.1 - 1)) = mir n ((l.drop (c.1 - 1)).take (c.2 - (c.1 - 1))) := by simp [mir]
  have e3 : (mir n l).drop c.2 = mir n (l.drop c.2) := by simp [mir]
  rw [e1, e2, e3, srt_mir]
  simp [mir]
theorem run_mir (n : Nat) : ∀ (rs : List Cmd) (l : List Int), runM (mir n l) rs = mir n (backR rs l)
  | [], l => rfl
  | c :: r, l => by
    show runM (step (mir n l) c) r = mir n (backR r (dstep l c))
    rw [step_mir, run_mir n r]
theorem back_mir (n : Nat) (cs : List Cmd) (l : List Int) : backM cs l = mir n (runM (mir n l) cs.reverse) := by
  rw [run_mir, mir_mir]; rfl
theorem less_mir (n : Nat) (x : Int) (l : List Int) : less ((n : Int) + 1 - x) (mir n l) = gt x l := by
  unfold less gt mir
  rw [List.filter_map, List.length_map]
  refine congrArg List.length (List.filter_congr fun v _ => ?_)
  show decide ((n : Int) + 1 - v < (n : Int) + 1 - x) = decide (x < v)
  exact decide_eq_decide.mpr ⟨fun _ => by omega, fun _ => by omega⟩
theorem inv_mir (n : Nat) : ∀ l : List Int, inv (mir n l) = asc l
  | [] => rfl
  | x :: r => by
    show less ((n : Int) + 1 - x) (mir n r) + inv (mir n r) = gt x r + asc r
    rw [less_mir, inv_mir n r]
theorem perm_nodup {l : List Int} {n : Nat} (h : l.Perm (ascN n)) : l.Nodup := h.nodup_iff.mpr (asc_nodup n)
/-- all pairs of places -/
theorem inv_asc {l : List Int} {n : Nat} (h : l.Perm (ascN n)) : inv l + asc l = inv (desc n) := by
  have h1 := asc_inv l (perm_nodup h)
  have h2 := desc_inv n
  rw [perm_len h] at h1
  omega
theorem inv_back_le {n : Nat} {cs : List Cmd} (hn : 1 ≤ n) (hf : Fits n cs) : inv (backM cs (ascN n)) + inv (runM (desc n) cs) ≤ inv (desc n) := by
  have hE := run_perm_n (desc_perm n) hf
  have hl := perm_len hE
  obtain ⟨st, lv⟩ := stand_ex hE hn
  have hps := (asc_count hE st lv).1
  have hia := inv_asc hE
  have hnb : Nb n (exM (runM (desc n) cs)) := by have := st.1; rwa [hl] at this
  generalize exM (runM (desc n) cs) = ps at st lv hps hnb
  -- the exchanges do the same, so they have the same greatest row
  have same : ∀ l : List Int, l.Perm (ascN n) → runM l (ps.map fun k => (k, k + 1)) = runM l cs := fun l hp => by
    have := stand_run (l := l) (cs := cs) st (by rw [perm_len hp, hl]) (by rw [hl]; exact hf) (by rw [hl])
    exact this
  have hb := back_perm_n (List.Perm.refl (ascN n)) hf
  have hb2 := back_perm_n (List.Perm.refl (ascN n)) hnb.fits
  have e : backM cs (ascN n) = backM (ps.map fun k => (k, k + 1)) (ascN n) := by
    have k1 := back_run (List.Perm.refl (ascN n)) hf
    have k2 := back_run (List.Perm.refl (ascN n)) hnb.fits
    rw [← same _ hb] at k1
    rw [same _ hb2] at k2
    refine most_anti hb hb2 ?_ ?_
    · exact (gal_run _ (by rw [perm_len hb, ascN_length']) (by rw [ascN_length']; exact hnb.fits)).mp k1
    · exact (gal_run _ (by rw [perm_len hb2, ascN_length']) (by rw [ascN_length']; exact hf)).mp k2
  -- each exchange, walked backward, adds one inversion at most
  have key : ∀ (qs : List Nat) (l : List Int), l.length = n → Nb n qs → inv (backR (qs.map fun k => (k, k + 1)) l) ≤ inv l + qs.length := by
    intro qs
    induction qs with
    | nil => intro l _ _; exact Nat.le_refl _
    | cons k r ih =>
      intro l hll hnb
      have hk := hnb k List.mem_cons_self
      have hd : dstep l (k, k + 1) = mir n (step (mir n l) (k, k + 1)) := by rw [step_mir, mir_mir]
      have hdl : (dstep l (k, k + 1)).length = n := by rw [(dstep_perm (l := l) (c := (k, k + 1)) (by show k ≤ k + 1; omega) (by show k + 1 ≤ l.length; omega)).length_eq, hll]
      have h2 := ih (dstep l (k, k + 1)) hdl fun j hj => hnb j (List.mem_cons_of_mem _ hj)
      have h3 : inv (dstep l (k, k + 1)) ≤ inv l + 1 := by
        obtain ⟨A, B, hl2, hA⟩ := two_at (l := l) (k := k) hk.1 (by omega)
        generalize l[k - 1] = a at hl2
        generalize l[k] = b at hl2
        have hd2 : dstep l (k, k + 1) = A ++ (srt [a, b]).reverse ++ B := by
          unfold dstep
          rw [hl2]
          have e1 : (A ++ a :: b :: B).take (k - 1) = A := by rw [← hA, List.take_left]
          have e2 : (A ++ a :: b :: B).drop (k - 1) = a :: b :: B := by rw [← hA, List.drop_left]
          have e3 : (A ++ a :: b :: B).drop (k + 1) = B := by rw [show k + 1 = A.length + 2 by omega, ← List.drop_drop, List.drop_left]; rfl
          show (A ++ a :: b :: B).take (k - 1) ++ (srt (((A ++ a :: b :: B).drop (k - 1)).take (k + 1 - (k - 1)))).reverse ++ (A ++ a :: b :: B).drop (k + 1) = _
          rw [e1, e2, e3, show k + 1 - (k - 1) = 2 by omega]; rfl
        rw [hd2, hl2]
        have i1 : inv (A ++ (srt [a, b]).reverse ++ B) + inv [a, b] = inv (A ++ [a, b] ++ B) + inv (srt [a, b]).reverse := by
          have p : ((srt [a, b]).reverse).Perm [a, b] := (List.reverse_perm _).trans (srt_perm _)
          rw [inv_app, inv_app, inv_app (A ++ [a, b]) B, inv_app A [a, b], crs_right p, crs_left (p.append_left A)]
          omega
        have i2 : inv (srt [a, b]).reverse ≤ 1 := by
          have : (srt [a, b]).length = 2 := srt_len _
          match hh : srt [a, b], this with
          | [x, y], _ => exact less_two y x
        have e4 : A ++ a :: b :: B = A ++ [a, b] ++ B := by simp
        rw [e4]
        omega
      show inv (backR (r.map fun k => (k, k + 1)) (dstep l (k, k + 1))) ≤ inv l + (r.length + 1)
      omega
  have h5 := key ps.reverse (ascN n) (ascN_length' n) fun k hk => hnb k (List.mem_reverse.mp hk)
  have h6 : inv (ascN n) = 0 := inv_sorted _ (asc_up n)
  rw [e]
  unfold backM
  rw [← List.map_reverse]
  rw [List.length_reverse] at h5
  omega
/-- what is missing ahead -/
theorem inv_back {n : Nat} {cs : List Cmd} (hn : 1 ≤ n) (hf : Fits n cs) : inv (backM cs (ascN n)) + inv (runM (desc n) cs) = inv (desc n) := by
  have h1 := inv_back_le hn hf
  have h2 := inv_back_le (cs := cs.reverse) hn hf.rev
  have hE := run_perm_n (desc_perm n) hf
  have hB := back_perm_n (List.Perm.refl (ascN n)) hf
  have e1 : backM cs.reverse (ascN n) = mir n (runM (desc n) cs) := by
    rw [back_mir n, mir_asc, List.reverse_reverse]
  have e2 : runM (desc n) cs.reverse = mir n (backM cs (ascN n)) := by
    rw [back_mir n cs, mir_asc, mir_mir]
  rw [e1, e2, inv_mir, inv_mir] at h2
  have h3 := inv_asc hE
  have h4 := inv_asc hB
  omega
theorem nbs_app (l : List Int) (p q : List Nat) : nbs l (p ++ q) = nbs (nbs l p) q := by unfold nbs; rw [List.map_append, runM_app]
theorem liv_snoc : ∀ (p : List Nat) (l : List Int) (k : Nat), Liv l (p ++ [k]) ↔ Liv l p ∧ seg (nbs l p) k (k + 1) ≠ nbs l p
  | [], l, k => ⟨fun h => ⟨trivial, h.1⟩, fun h => ⟨h.2, trivial⟩⟩
  | j :: r, l, k => by
    show (seg l j (j + 1) ≠ l ∧ Liv (seg l j (j + 1)) (r ++ [k])) ↔ (seg l j (j + 1) ≠ l ∧ Liv (seg l j (j + 1)) r) ∧ seg (nbs (seg l j (j + 1)) r) k (k + 1) ≠ nbs (seg l j (j + 1)) r
    rw [liv_snoc r]
    exact ⟨fun h => ⟨⟨h.1, h.2.1⟩, h.2.2⟩, fun h => ⟨h.1.1, h.1.2, h.2⟩⟩
/-- the way back, seen from the other end of the values -/
theorem rev_walk (n : Nat) : ∀ (ps : List Nat) (l : List Int), Nb l.length ps → Liv l ps → nbs (mir n (nbs l ps)) ps.reverse = mir n l ∧ Liv (mir n (nbs l ps)) ps.reverse
  | [], l, _, _ => ⟨rfl, trivial⟩
  | k :: r, l, hn, hl => by
    have hk := hn k List.mem_cons_self
    obtain ⟨A, B, e, hA⟩ := two_at (l := l) (k := k) hk.1 hk.2
    generalize l[k - 1] = a at e
    generalize l[k] = b at e
    have hs := seg_two (A := A) (B := B) (a := a) (b := b) hk.1 hA
    rw [← e] at hs
    have hab : b < a := Classical.byContradiction fun g => hl.1 (by rw [hs, if_neg g, e])
    rw [if_pos hab] at hs
    have hlen : (seg l k (k + 1)).length = l.length := seg_len (by omega) (by omega)
    obtain ⟨i1, i2⟩ := rev_walk n r (seg l k (k + 1)) (by rw [hlen]; exact fun j hj => hn j (List.mem_cons_of_mem _ hj)) hl.2
    have em : mir n (A ++ b :: a :: B) = mir n A ++ ((n : Int) + 1 - b) :: ((n : Int) + 1 - a) :: mir n B := by simp [mir]
    have back : seg (mir n (seg l k (k + 1))) k (k + 1) = mir n l := by
      rw [hs, em, seg_two hk.1 (by rw [mir_len]; exact hA), if_pos (by omega), e]
      show _ = mir n (A ++ a :: b :: B)
      simp [mir]
    show nbs (mir n (nbs (seg l k (k + 1)) r)) (k :: r).reverse = mir n l ∧ Liv (mir n (nbs (seg l k (k + 1)) r)) (k :: r).reverse
    rw [List.reverse_cons, nbs_snoc, i1, back, liv_snoc, i1, back]
    refine ⟨rfl, i2, fun g => hl.1 ?_⟩
    have := congrArg (mir n) g
    rw [mir_mir, mir_mir] at this
    exact this.symm
/-- the exchanges to be put behind, and ahead -/
def behM (n : Nat) (cs : List Cmd) : List Nat := (exM (mir n (runM (desc n) cs))).reverse
def ahdM (n : Nat) (cs : List Cmd) : List Nat := exM (backM cs (ascN n))
theorem beh_facts {n : Nat} {cs : List Cmd} (hn : 1 ≤ n) (hf : Fits n cs) : Nb n (behM n cs) ∧ nbs (runM (desc n) cs) (behM n cs) = ascN n ∧ Liv (runM (desc n) cs) (behM n cs) ∧ (behM n cs).length = inv (runM (desc n) cs) := by
  have hE := run_perm_n (desc_perm n) hf
  have hM := mir_perm hE
  obtain ⟨st, lv⟩ := stand_ex hM hn
  have hc := (asc_count hM st lv).1
  have hnb : Nb n (exM (mir n (runM (desc n) cs))) := by have := st.1; rwa [perm_len hM] at this
  obtain ⟨r1, r2⟩ := rev_walk n (exM (mir n (runM (desc n) cs))) (desc n) (by rw [desc_len]; first | done | exact hnb) lv
  have st2 : nbs (desc n) (exM (mir n (runM (desc n) cs))) = mir n (runM (desc n) cs) := by have := st.2; rwa [perm_len hM] at this
  rw [st2, mir_mir] at r1 r2
  rw [mir_desc] at r1
  refine ⟨fun k hk => hnb k (List.mem_reverse.mp hk), r1, r2, ?_⟩
  unfold behM
  rw [List.length_reverse, hc]
  have h1 := inv_asc hM
  rw [inv_mir] at h1
  have h2 := inv_asc hE
  omega
theorem ahd_facts {n : Nat} {cs : List Cmd} (hn : 1 ≤ n) (hf : Fits n cs) : Nb n (ahdM n cs) ∧ nbs (desc n) (ahdM n cs) = backM cs (ascN n) ∧ Liv (desc n) (ahdM n cs) ∧ (ahdM n cs).length = inv (runM (desc n) cs) ∧ runM (backM cs (ascN n)) cs = ascN n := by
  have hB := back_perm_n (List.Perm.refl (ascN n)) hf
  obtain ⟨st, lv⟩ := stand_ex hB hn
  have hc := (asc_count hB st lv).1
  have st1 := st.1
  have st2 := st.2
  rw [perm_len hB] at st1 st2
  refine ⟨st1, st2, lv, ?_, least_is (run_perm_n hB hf) (back_run (List.Perm.refl (ascN n)) hf)⟩
  unfold ahdM
  rw [hc]
  have h1 := inv_asc hB
  have h2 := inv_back hn hf
  omega
theorem inv_eff_le {n : Nat} {cs : List Cmd} (hf : Fits n cs) (hn : n ≤ 1000) : inv (runM (desc n) cs) ≤ 1000000 := by
  have := inv_le (runM (desc n) cs)
  rw [perm_len (run_perm_n (desc_perm n) hf)] at this
  exact Nat.le_trans this (Nat.mul_le_mul hn hn)
end My
namespace My
theorem getD_take {l : List Int} {i k : Nat} (h : i < k) : (l.take k).getD i 0 = l.getD i 0 := by
  simp [List.getD, h]
theorem getD_drop (l : List Int) (i k : Nat) : (l.drop k).getD i 0 = l.getD (k + i) 0 := by
  simp [List.getD]
theorem getD_left {l m : List Int} {i : Nat} (h : i < l.length) : (l ++ m).getD i 0 = l.getD i 0 := by
  simp [List.getD, List.getElem?_append_left h]
theorem getD_right {l m : List Int} {i : Nat} (h : l.length ≤ i) : (l ++ m).getD i 0 = m.getD (i - l.length) 0 := by
  simp [List.getD, List.getElem?_append_right h]
theorem getD_ext {l m : List Int} (hl : l.length = m.length) (h : ∀ i, i < l.length → l.getD i 0 = m.getD i 0) : l = m :=
  List.ext_getElem hl fun i h1 h2 => by have := h i h1; simpa [List.getD, h1, h2] using this
/-- a step changes nothing outside of its stretch -/
theorem step_out {l : List Int} {c : Cmd} {i : Nat} (h1 : c.1 ≤ c.2) (h2 : c.2 ≤ l.length) (h : i < c.1 - 1 ∨ c.2 ≤ i) : (step l c).getD i 0 = l.getD i 0 := by
  obtain ⟨A, M, B, e, hA, hM, e2⟩ := seg_split h1 h2
  have e3 : step l c = A ++ srt M ++ B := e2
  rw [e3, e]
  have hs := srt_len M
  rcases h with h | h
  · rw [getD_left (by rw [List.length_append]; omega), getD_left (by omega), getD_left (by rw [List.length_append]; omega), getD_left (by omega)]
  · rw [getD_right (by rw [List.length_append]; omega), getD_right (by rw [List.length_append]; omega), List.length_append, List.length_append, hs]
/-- what is alike outside of a stretch and sorted in it is what the step makes -/
theorem step_is {r t : List Int} {c : Cmd} (hp : r.Perm t) (h1 : c.1 ≤ c.2) (h2 : c.2 ≤ r.length) (ho : ∀ i, i < r.length → (i < c.1 - 1 ∨ c.2 ≤ i) → r.getD i 0 = t.getD i 0) (up : ((t.drop (c.1 - 1)).take (c.2 - (c.1 - 1))).Pairwise (· ≤ ·)) : step r c = t := by
  have hl := hp.length_eq
  obtain ⟨A, M, B, e, hA, hM, e2⟩ := seg_split h1 h2
  obtain ⟨A', M', B', e', hA', hM', _⟩ := seg_split (l := t) h1 (by omega)
  have lr : r.length = A.length + M.length + B.length := by rw [e]; simp; omega
  have lt : t.length = A'.length + M'.length + B'.length := by rw [e']; simp; omega
  have eM' : (t.drop (c.1 - 1)).take (c.2 - (c.1 - 1)) = M' := by
    rw [e', List.append_assoc, ← hA', List.drop_left, hA', ← hM', List.take_left]
  have eA : A = A' := getD_ext (by omega) fun i hi => by
    have := ho i (by omega) (.inl (by omega))
    rwa [e, e', getD_left (by rw [List.length_append]; omega), getD_left hi, getD_left (by rw [List.length_append]; omega), getD_left (by omega)] at this
  have eB : B = B' := getD_ext (by omega) fun i hi => by
    have := ho ((A ++ M).length + i) (by rw [List.length_append]; omega) (.inr (by rw [List.length_append]; omega))
    rwa [e, e', getD_right (by omega), getD_right (by rw [List.length_append, List.length_append]; omega), show (A ++ M).length + i - (A ++ M).length = i by omega, show (A ++ M).length + i - (A' ++ M').length = i by rw [List.length_append, List.length_append]; omega] at this
  have e3 : step r c = A ++ srt M ++ B := e2
  rw [eM'] at up
  rw [e, e', ← eA, ← eB, List.append_assoc, List.append_assoc, List.perm_append_left_iff, List.perm_append_right_iff] at hp
  rw [e3, e', ← eA, ← eB, ← srt_is hp.symm up]
theorem difU_up (a b : List Int) : (dif a b).Pairwise (· < ·) := by
  unfold dif difU
  rw [List.pairwise_map]
  exact (List.Pairwise.filter _ List.pairwise_lt_range).imp fun {x y} h => by omega
theorem chg_in {a b : List Int} (h : dif a b ≠ []) : (chgM a b).1 ∈ dif a b ∧ (chgM a b).2 ∈ dif a b := by
  unfold chgM
  generalize dif a b = l at h
  cases l with
  | nil => exact absurd rfl h
  | cons x r => exact ⟨List.mem_cons_self, by show (x :: r).getLastD 0 ∈ _; rw [List.getLastD_eq_getLast?, List.getLast?_eq_some_getLast (by simp)]; exact List.getLast_mem (by simp)⟩
theorem chg_all {a b : List Int} {k : Nat} (h : k ∈ dif a b) : (chgM a b).1 ≤ k ∧ k ≤ (chgM a b).2 := by
  have u := difU_up a b
  unfold chgM
  generalize dif a b = l at h u
  constructor
  · cases l with
    | nil => cases h
    | cons x r =>
      rcases List.mem_cons.mp h with e | e
      · rw [e]; exact Nat.le_refl _
      · exact Nat.le_of_lt ((List.pairwise_cons.mp u).1 k e)
  · have hne : l ≠ [] := by intro e; rw [e] at h; cases h
    have e : l = l.dropLast ++ [l.getLast hne] := (List.dropLast_concat_getLast hne).symm
    have e2 : l.getLastD 0 = l.getLast hne := by rw [List.getLastD_eq_getLast?, List.getLast?_eq_some_getLast hne]; rfl
    show k ≤ l.getLastD 0
    rw [e2]
    generalize l.getLast hne = x at e ⊢
    rw [e] at h u
    rcases List.mem_append.mp h with g | g
    · exact Nat.le_of_lt ((List.pairwise_append.mp u).2.2 k g x (List.mem_singleton.mpr rfl))
    · rw [List.mem_singleton.mp g]; exact Nat.le_refl _
theorem chg_fit {a b : List Int} (h : dif a b ≠ []) : 1 ≤ (chgM a b).1 ∧ (chgM a b).1 ≤ (chgM a b).2 ∧ (chgM a b).2 ≤ a.length := by
  obtain ⟨h1, h2⟩ := chg_in h
  obtain ⟨i, _, _, e1⟩ := dif_mem.mp h1
  obtain ⟨j, hj, _, e2⟩ := dif_mem.mp h2
  exact ⟨by omega, (chg_all h2).1, by omega⟩
/-- outside of the stretch of the differences the rows are alike -/
theorem chg_out {a b : List Int} {i : Nat} (hi : i < a.length) (h : i < (chgM a b).1 - 1 ∨ (chgM a b).2 ≤ i) : a.getD i 0 = b.getD i 0 :=
  Classical.byContradiction fun g => by
    have := chg_all (dif_mem.mpr ⟨i, hi, g, rfl⟩)
    omega
/-- a step that makes b of a holds all differences -/
theorem chg_step {a b : List Int} {c : Cmd} (h1 : c.1 ≤ c.2) (h2 : c.2 ≤ a.length) (hd : dif a b ≠ []) (e : step a c = b) : c.1 ≤ (chgM a b).1 ∧ (chgM a b).2 ≤ c.2 := by
  obtain ⟨m1, m2⟩ := chg_in hd
  obtain ⟨i, _, g1, e1⟩ := dif_mem.mp m1
  obtain ⟨j, _, g2, e2⟩ := dif_mem.mp m2
  constructor
  · refine Classical.byContradiction fun g => g1 ?_
    rw [← e, step_out h1 h2 (.inl (by omega))]
  · refine Classical.byContradiction fun g => g2 ?_
    rw [← e, step_out h1 h2 (.inr (by omega))]
/-- the steps that make the sorted row of a row are the ones that hold all differences -/
theorem step_asc {E : List Int} {n : Nat} {c : Cmd} (hE : E.Perm (ascN n)) (hne : E ≠ ascN n) (h1 : c.1 ≤ c.2) (h2 : c.2 ≤ n) : step E c = ascN n ↔ c.1 ≤ (chgM E (ascN n)).1 ∧ (chgM E (ascN n)).2 ≤ c.2 := by
  have hl := perm_len hE
  have hd := dif_ne (by rw [hl, ascN_length']) hne
  refine ⟨chg_step h1 (by omega) hd, fun h => step_is hE h1 (by omega) (fun i hi g => chg_out hi (by omega)) ?_⟩
  exact ((asc_up n).sublist ((List.take_sublist _ _).trans (List.drop_sublist _ _)))
/-- the stretch of the differences has two places at least -/
theorem chg_two {a b : List Int} (hp : a.Perm b) (hne : a ≠ b) : (chgM a b).1 < (chgM a b).2 := by
  have hl := hp.length_eq
  have hd := dif_ne hl hne
  obtain ⟨f1, f2, f3⟩ := chg_fit hd
  refine Nat.lt_of_le_of_ne f2 fun e => hne ?_
  have k1 : ∀ x : List Int, ((x.drop ((chgM a b).1 - 1)).take ((chgM a b).2 - ((chgM a b).1 - 1))).Pairwise (· ≤ ·) := fun x => by
    rw [← e, show (chgM a b).1 - ((chgM a b).1 - 1) = 1 by omega]
    cases x.drop ((chgM a b).1 - 1) with
    | nil => exact List.Pairwise.nil
    | cons y r => exact List.pairwise_singleton _ _
  have s1 : step a (chgM a b) = b := step_is hp f2 f3 (fun i hi g => chg_out hi g) (k1 b)
  have s2 : step a (chgM a b) = a := step_is (List.Perm.refl a) f2 f3 (fun i hi g => rfl) (k1 a)
  rw [← s1, s2]
theorem dif_comm {a b : List Int} (hl : a.length = b.length) : dif a b = dif b a := by
  unfold dif difU
  rw [hl]
  congr 1
  exact List.filter_congr fun i _ => decide_eq_decide.mpr ⟨fun h => h.symm, fun h => h.symm⟩
theorem dif_mir {n : Nat} {a b : List Int} (hl : a.length = b.length) : dif (mir n a) (mir n b) = dif a b := by
  unfold dif difU
  rw [mir_len]
  congr 1
  refine List.filter_congr fun i hi => decide_eq_decide.mpr ?_
  have hi := List.mem_range.mp hi
  have g : ∀ x : List Int, i < x.length → (mir n x).getD i 0 = (n : Int) + 1 - x.getD i 0 := fun x hx => by simp [mir, List.getD, hx]
  rw [g a hi, g b (by omega)]
  omega
theorem mir_inj {n : Nat} {a b : List Int} (h : mir n a = mir n b) : a = b := by rw [← mir_mir n a, h, mir_mir]
/-- a script sorts every row exactly if all rows walk back to the descending one -/
theorem full_back {n : Nat} {cs : List Cmd} (hn : 1 ≤ n) (hf : Fits n cs) : runM (desc n) cs = ascN n ↔ backM cs (ascN n) = desc n := by
  have hE := run_perm_n (desc_perm n) hf
  have hB := back_perm_n (List.Perm.refl (ascN n)) hf
  have k := inv_back hn hf
  constructor
  · intro h
    rw [h, inv_sorted _ (asc_up n)] at k
    have k2 := inv_asc hB
    have k3 : inv (mir n (backM cs (ascN n))) = 0 := by rw [inv_mir]; omega
    have k4 := srt_asc (mir_perm hB)
    rw [srt_id (inv_zero k3)] at k4
    rw [← mir_mir n (backM cs (ascN n)), k4, mir_asc]
  · intro h
    rw [h] at k
    have k4 := srt_asc hE
    rwa [srt_id (inv_zero (by omega))] at k4
theorem fit_behind {n : Nat} {cs : List Cmd} {c : Cmd} (hf : Fits n cs) (hne : runM (desc n) cs ≠ ascN n) (h1 : c.1 ≤ c.2) (h2 : c.2 ≤ n) : runM (desc n) (cs ++ [c]) = ascN n ↔ c.1 ≤ (chgM (runM (desc n) cs) (ascN n)).1 ∧ (chgM (runM (desc n) cs) (ascN n)).2 ≤ c.2 := by
  rw [runM_snoc]
  exact step_asc (run_perm_n (desc_perm n) hf) hne h1 h2
theorem fit_ahead {n : Nat} {cs : List Cmd} {c : Cmd} (hn : 1 ≤ n) (hf : Fits n cs) (hne : desc n ≠ backM cs (ascN n)) (h0 : 1 ≤ c.1) (h1 : c.1 ≤ c.2) (h2 : c.2 ≤ n) : runM (desc n) (c :: cs) = ascN n ↔ c.1 ≤ (chgM (desc n) (backM cs (ascN n))).1 ∧ (chgM (desc n) (backM cs (ascN n))).2 ≤ c.2 := by
  have hB := back_perm_n (List.Perm.refl (ascN n)) hf
  have hBl := perm_len hB
  have hf2 : Fits n (c :: cs) := fun d hd => by
    rcases List.mem_cons.mp hd with e | e
    · rw [e]; exact ⟨h0, h1, h2⟩
    · exact hf d e
  rw [full_back hn hf2]
  have e1 : backM (c :: cs) (ascN n) = dstep (backM cs (ascN n)) c := by
    unfold backM backR
    rw [List.reverse_cons, List.foldl_append]; rfl
  rw [e1]
  generalize backM cs (ascN n) = B at hB hBl hne
  have e2 : chgM (mir n B) (ascN n) = chgM (desc n) B := by
    unfold chgM
    have : dif (mir n B) (ascN n) = dif (desc n) B := by
      rw [← mir_desc n, dif_mir (by rw [hBl, desc_len]), dif_comm (by rw [hBl, desc_len])]
    rw [this]
  have k := step_asc (c := c) (mir_perm hB) (fun h => hne (by rw [← mir_mir n B, h, mir_asc])) h1 h2
  rw [e2, step_mir] at k
  rw [← k]
  exact ⟨fun h => by rw [h, mir_desc], fun h => mir_inj (n := n) (by rw [h, mir_desc])⟩
theorem step_one (l : List Int) (h : 1 ≤ l.length) : step l (1, 1) = l :=
  step_is (List.Perm.refl l) (Nat.le_refl 1) h (fun _ _ _ => rfl) (by
    show ((l.drop 0).take 1).Pairwise (· ≤ ·)
    cases l with
    | nil => exact List.Pairwise.nil
    | cons x r => exact List.pairwise_singleton _ _)
/-- the rows whose differences tell the command to be put behind, or ahead -/
def oneA (n : Nat) (cs : List Cmd) (w : Bool) : List Int := if w then desc n else runM (desc n) cs
def oneB (n : Nat) (cs : List Cmd) (w : Bool) : List Int := if w then backM cs (ascN n) else ascN n
def oneW (cs : List Cmd) (w : Bool) (c : Cmd) : List Cmd := if w then c :: cs else cs ++ [c]
theorem one_none {n : Nat} {cs : List Cmd} {w : Bool} (hn : 1 ≤ n) (hf : Fits n cs) : runM (desc n) (oneW cs w (1, 1)) = ascN n ↔ oneA n cs w = oneB n cs w := by
  cases w
  · show runM (desc n) (cs ++ [(1, 1)]) = ascN n ↔ runM (desc n) cs = ascN n
    rw [runM_snoc, step_one _ (by rw [perm_len (run_perm_n (desc_perm n) hf)]; exact hn)]
  · show runM (step (desc n) (1, 1)) cs = ascN n ↔ desc n = backM cs (ascN n)
    rw [step_one _ (by rw [desc_len]; exact hn), full_back hn hf]
    exact eq_comm
theorem one_fit {n : Nat} {cs : List Cmd} {w : Bool} {c : Cmd} (hn : 1 ≤ n) (hf : Fits n cs) (hne : oneA n cs w ≠ oneB n cs w) (h0 : 1 ≤ c.1) (h1 : c.1 ≤ c.2) (h2 : c.2 ≤ n) : runM (desc n) (oneW cs w c) = ascN n ↔ c.1 ≤ (chgM (oneA n cs w) (oneB n cs w)).1 ∧ (chgM (oneA n cs w) (oneB n cs w)).2 ≤ c.2 := by
  cases w
  · exact fit_behind hf hne h1 h2
  · exact fit_ahead hn hf hne h0 h1 h2
theorem one_in {n : Nat} {cs : List Cmd} {w : Bool} (hf : Fits n cs) (hne : oneA n cs w ≠ oneB n cs w) : 1 ≤ (chgM (oneA n cs w) (oneB n cs w)).1 ∧ (chgM (oneA n cs w) (oneB n cs w)).1 < (chgM (oneA n cs w) (oneB n cs w)).2 ∧ (chgM (oneA n cs w) (oneB n cs w)).2 ≤ n := by
  have hp : (oneA n cs w).Perm (oneB n cs w) ∧ (oneA n cs w).length = n := by
    cases w
    · have hE := run_perm_n (desc_perm n) hf
      exact ⟨hE, perm_len hE⟩
    · exact ⟨(desc_perm n).trans (back_perm_n (List.Perm.refl (ascN n)) hf).symm, desc_len n⟩
  obtain ⟨f1, f2, f3⟩ := chg_fit (dif_ne hp.1.length_eq hne)
  rw [hp.2] at f3
  exact ⟨f1, chg_two hp.1 hne, f3⟩
end My
namespace My
/-- the commands that change the row at their turn, each as short as possible -/
def trimR : List Int → List Cmd → List Cmd
  | _, [] => []
  | l, c :: r => if l = step l c then trimR (step l c) r else chgM l (step l c) :: trimR (step l c) r
theorem trimR_snoc : ∀ (cs : List Cmd) (l : List Int) (c : Cmd), trimR l (cs ++ [c]) = trimR l cs ++ (if runM l cs = step (runM l cs) c then [] else [chgM (runM l cs) (step (runM l cs) c)])
  | [], l, c => by
    show trimR l [c] = [] ++ (if l = step l c then [] else [chgM l (step l c)])
    unfold trimR
    rfl
  | d :: r, l, c => by
    show trimR l (d :: (r ++ [c])) = trimR l (d :: r) ++ (if runM (step l d) r = step (runM (step l d) r) c then [] else [chgM (runM (step l d) r) (step (runM (step l d) r) c)])
    rw [trimR, trimR, trimR_snoc r (step l d) c]
    by_cases h : l = step l d
    · rw [if_pos h, if_pos h]
    · rw [if_neg h, if_neg h]; rfl
theorem trimR_len (l : List Int) (cs : List Cmd) : (trimR l cs).length ≤ cs.length := by
  induction cs generalizing l with
  | nil => exact Nat.le_refl _
  | cons c r ih =>
    rw [trimR]
    split
    · exact Nat.le_trans (ih _) (Nat.le_succ _)
    · exact Nat.succ_le_succ (ih _)
/-- a step is one by the stretch of its changes -/
theorem step_chg {l : List Int} {c : Cmd} (h1 : c.1 ≤ c.2) (h2 : c.2 ≤ l.length) (hne : l ≠ step l c) : step l (chgM l (step l c)) = step l c := by
  have hp : l.Perm (step l c) := (seg_perm h1 h2).symm
  have hd := dif_ne hp.length_eq hne
  obtain ⟨f1, f2, f3⟩ := chg_fit hd
  obtain ⟨b1, b2⟩ := chg_step h1 h2 hd rfl
  refine step_is hp f2 f3 (fun i hi g => chg_out hi g) ?_
  obtain ⟨A, M, B, _, hA, hM, e2⟩ := seg_split h1 h2
  have e3 : step l c = A ++ srt M ++ B := e2
  have hs := srt_len M
  generalize chgM l (step l c) = d at f1 f2 f3 b1 b2
  rw [e3]
  have e4 : ((A ++ srt M ++ B).drop (d.1 - 1)).take (d.2 - (d.1 - 1)) = ((srt M).drop (d.1 - 1 - A.length)).take (d.2 - (d.1 - 1)) := by
    rw [List.append_assoc, List.drop_append, List.drop_of_length_le (by omega), List.nil_append, List.drop_append, List.take_append]
    have : d.2 - (d.1 - 1) - ((srt M).drop (d.1 - 1 - A.length)).length = 0 := by rw [List.length_drop]; omega
    rw [this, List.take_zero, List.append_nil]
  rw [e4]
  exact (srt_up M).sublist ((List.take_sublist _ _).trans (List.drop_sublist _ _))
/-- the steps within a command that do the same are the ones that hold all changes -/
theorem step_within {l : List Int} {c d : Cmd} (h1 : c.1 ≤ c.2) (h2 : c.2 ≤ l.length) (hne : l ≠ step l c) (hd : d.1 ≤ d.2) (hc1 : c.1 ≤ d.1) (hc2 : d.2 ≤ c.2) : step l d = step l c ↔ d.1 ≤ (chgM l (step l c)).1 ∧ (chgM l (step l c)).2 ≤ d.2 := by
  have hp : l.Perm (step l c) := (seg_perm h1 h2).symm
  have hdd := dif_ne hp.length_eq hne
  obtain ⟨f1, f2, f3⟩ := chg_fit hdd
  refine ⟨fun e => chg_step hd (by omega) hdd e, fun ⟨k1, k2⟩ => ?_⟩
  refine step_is hp hd (by omega) (fun i hi g => chg_out hi (by omega)) ?_
  obtain ⟨A, M, B, _, hA, hM, e2⟩ := seg_split h1 h2
  have e3 : step l c = A ++ srt M ++ B := e2
  have hs := srt_len M
  rw [e3]
  have e4 : ((A ++ srt M ++ B).drop (d.1 - 1)).take (d.2 - (d.1 - 1)) = ((srt M).drop (d.1 - 1 - A.length)).take (d.2 - (d.1 - 1)) := by
    rw [List.append_assoc, List.drop_append, List.drop_of_length_le (by omega), List.nil_append, List.drop_append, List.take_append]
    have : d.2 - (d.1 - 1) - ((srt M).drop (d.1 - 1 - A.length)).length = 0 := by rw [List.length_drop]; omega
    rw [this, List.take_zero, List.append_nil]
  rw [e4]
  exact (srt_up M).sublist ((List.take_sublist _ _).trans (List.drop_sublist _ _))
theorem chg_cmd {l : List Int} {c : Cmd} (h1 : c.1 ≤ c.2) (h2 : c.2 ≤ l.length) (hne : l ≠ step l c) : 1 ≤ (chgM l (step l c)).1 ∧ (chgM l (step l c)).1 < (chgM l (step l c)).2 ∧ (chgM l (step l c)).2 ≤ l.length ∧ c.1 ≤ (chgM l (step l c)).1 ∧ (chgM l (step l c)).2 ≤ c.2 := by
  have hp : l.Perm (step l c) := (seg_perm h1 h2).symm
  have hd := dif_ne hp.length_eq hne
  obtain ⟨f1, f2, f3⟩ := chg_fit hd
  obtain ⟨b1, b2⟩ := chg_step h1 h2 hd rfl
  exact ⟨f1, chg_two hp hne, f3, b1, b2⟩
theorem trim_run : ∀ (cs : List Cmd) (l : List Int), Fits l.length cs → runM l (trimR l cs) = runM l cs ∧ Fits l.length (trimR l cs)
  | [], l, _ => ⟨rfl, fun c hc => by cases hc⟩
  | c :: r, l, h => by
    have hc := h c List.mem_cons_self
    have hl : (step l c).length = l.length := seg_len hc.2.1 hc.2.2
    obtain ⟨i1, i2⟩ := trim_run r (step l c) (by rw [hl]; exact fun d hd => h d (List.mem_cons_of_mem _ hd))
    rw [hl] at i2
    rw [trimR]
    by_cases e : l = step l c
    · rw [if_pos e]
      refine ⟨?_, i2⟩
      show runM l (trimR (step l c) r) = runM (step l c) r
      exact (congrArg (fun x => runM x (trimR (step l c) r)) e).trans i1
    · rw [if_neg e]
      have k := chg_cmd hc.2.1 hc.2.2 e
      refine ⟨?_, fun d hd => ?_⟩
      · show runM (step l (chgM l (step l c))) (trimR (step l c) r) = runM (step l c) r
        rw [step_chg hc.2.1 hc.2.2 e, i1]
      · rcases List.mem_cons.mp hd with g | g
        · rw [g]; exact ⟨k.1, Nat.le_of_lt k.2.1, k.2.2.1⟩
        · exact i2 d g
/-- scripts of the same effect do the same to every row -/
theorem run_same {n : Nat} {cs ds : List Cmd} (hn : 1 ≤ n) (hf : Fits n cs) (hg : Fits n ds) (h : runM (desc n) cs = runM (desc n) ds) {l : List Int} (hl : l.length = n) : runM l cs = runM l ds := by
  have hE := run_perm_n (desc_perm n) hf
  obtain ⟨st, _⟩ := stand_ex hE hn
  have hEl := perm_len hE
  have k1 := stand_run (l := l) (cs := cs) st (by rw [hEl, hl]) (by rw [hEl]; exact hf) (by rw [hEl])
  have k2 := stand_run (l := l) (cs := ds) st (by rw [hEl, hl]) (by rw [hEl]; exact hg) (by rw [hEl, h])
  rw [← k1, ← k2]
theorem trim_eff {n : Nat} {cs : List Cmd} (hf : Fits n cs) : runM (desc n) (trimR (desc n) cs) = runM (desc n) cs ∧ Fits n (trimR (desc n) cs) := by
  have := trim_run cs (desc n) (by rw [desc_len]; exact hf)
  rw [desc_len] at this
  exact this
end My
namespace My
/-- rows of k different values of 1 to n -/
def arrM (n : Nat) : Nat → List (List Int)
  | 0 => [[]]
  | k + 1 => (arrM n k).flatMap fun c => ((ascN n).filter fun v => !decide (v ∈ c)).map fun v => c ++ [v]
theorem nodup_perm : ∀ {l m : List Int}, l.Nodup → (∀ v ∈ l, v ∈ m) → m.length = l.length → l.Perm m
  | [], m, _, _, h => by rw [List.eq_nil_of_length_eq_zero h]
  | x :: r, m, hn, hs, h => by
    have h1 := List.nodup_cons.mp hn
    have hx := hs x List.mem_cons_self
    have hp := List.perm_cons_erase hx
    have hl := hp.length_eq
    rw [List.length_cons] at hl h
    refine ((nodup_perm (m := m.erase x) h1.2 (fun v hv => ?_) (by omega)).cons x).trans hp.symm
    have hne : v ≠ x := fun e => h1.1 (e ▸ hv)
    exact (List.mem_erase_of_ne hne).mpr (hs v (List.mem_cons_of_mem _ hv))
theorem arr_mem {n : Nat} : ∀ {k : Nat} {l : List Int}, l ∈ arrM n k → l.length = k ∧ l.Nodup ∧ ∀ v ∈ l, v ∈ ascN n
  | 0, l, h => by rw [List.mem_singleton.mp h]; exact ⟨rfl, List.nodup_nil, fun v hv => by cases hv⟩
  | k + 1, l, h => by
    obtain ⟨c, hc, h⟩ := List.mem_flatMap.mp h
    obtain ⟨v, hv, rfl⟩ := List.mem_map.mp h
    obtain ⟨h1, h2, h3⟩ := arr_mem hc
    rw [List.mem_filter] at hv
    have hvc : v ∉ c := by simpa using hv.2
    refine ⟨by rw [List.length_append, h1]; rfl, ?_, fun w hw => ?_⟩
    · rw [List.nodup_append]
      exact ⟨h2, List.nodup_cons.mpr ⟨by simp, List.nodup_nil⟩, fun a ha b hb => by rw [List.mem_singleton.mp hb]; intro e; exact hvc (e ▸ ha)⟩
    · rcases List.mem_append.mp hw with z | z
      · exact h3 w z
      · rw [List.mem_singleton.mp z]; exact hv.1
theorem arrm_perm {n : Nat} {l : List Int} (h : l ∈ arrM n n) : l.Perm (ascN n) := by
  obtain ⟨h1, h2, h3⟩ := arr_mem h
  exact nodup_perm h2 h3 (by rw [h1]; simp [ascN])
/-- every arrangement is among them -/
theorem arr_all {n : Nat} : ∀ {k : Nat} {l : List Int}, l.length = k → l.Nodup → (∀ v ∈ l, v ∈ ascN n) → l ∈ arrM n k
  | 0, l, h, _, _ => by rw [List.eq_nil_of_length_eq_zero h]; exact List.mem_singleton.mpr rfl
  | k + 1, l, h, hn, hs => by
    have hne : l ≠ [] := fun e => by rw [e] at h; simp at h
    have e := List.dropLast_concat_getLast hne
    rw [← e] at hn hs ⊢
    rw [List.nodup_append] at hn
    refine List.mem_flatMap.mpr ⟨l.dropLast, arr_all (by rw [List.length_dropLast, h]; rfl) hn.1 (fun v hv => hs v (List.mem_append_left _ hv)), List.mem_map.mpr ⟨l.getLast hne, ?_, rfl⟩⟩
    rw [List.mem_filter]
    refine ⟨hs _ (by simp), ?_⟩
    simp only [Bool.not_eq_true', decide_eq_false_iff_not]
    intro hv
    exact hn.2.2 _ hv _ (List.mem_singleton.mpr rfl) rfl
theorem arr_desc (n : Nat) : desc n ∈ arrM n n := by
  have hp := desc_perm n
  refine arr_all (desc_len n) ?_ fun v hv => hp.mem_iff.mp hv
  rw [hp.nodup_iff]
  exact (arr_asc (List.Perm.refl _)).1
theorem arr_len {n : Nat} : ∀ k, (arrM n k).length ≤ n ^ k
  | 0 => by simp [arrM]
  | k + 1 => by
    have ih := arr_len (n := n) k
    have : ∀ (ls : List (List Int)), (ls.flatMap fun c => ((ascN n).filter fun v => !decide (v ∈ c)).map fun v => c ++ [v]).length ≤ ls.length * n := fun ls => by
      induction ls with
      | nil => simp
      | cons c r ih =>
        rw [List.flatMap_cons, List.length_append, List.length_cons, Nat.succ_mul, List.length_map]
        have h1 : ((ascN n).filter fun v => !decide (v ∈ c)).length ≤ n := Nat.le_trans (List.length_filter_le _ _) (by simp [ascN])
        omega
    show ((arrM n k).flatMap _).length ≤ n ^ (k + 1)
    exact Nat.le_trans (this _) (by rw [Nat.pow_succ]; exact Nat.mul_le_mul_right _ ih)
end My
namespace My
/-! counting the bit rows that get sorted -/
theorem dstep_map {f : Int → Int} (hf : ∀ a b, a ≤ b → f a ≤ f b) (l : List Int) (c : Cmd) : dstep (l.map f) c = (dstep l c).map f := by
  unfold dstep
  rw [← List.map_take, ← List.map_drop, ← List.map_take, ← List.map_drop, srt_map hf, List.map_append, List.map_append, List.map_reverse]
theorem backR_map {f : Int → Int} (hf : ∀ a b, a ≤ b → f a ≤ f b) : ∀ (rs : List Cmd) (l : List Int), backR rs (l.map f) = (backR rs l).map f
  | [], _ => rfl
  | c :: r, l => by
    show backR r (dstep (l.map f) c) = (backR r (dstep l c)).map f
    rw [dstep_map hf, backR_map hf r]
theorem back_map {f : Int → Int} (hf : ∀ a b, a ≤ b → f a ≤ f b) (cs : List Cmd) (l : List Int) : backM cs (l.map f) = (backM cs l).map f := backR_map hf _ _
/-- the bits of a row above a value -/
def btM (z : Int) (l : List Int) : List Int := l.map fun x => if z < x then (1 : Int) else 0
def Bits (l : List Int) : Prop := ∀ x ∈ l, x = 0 ∨ x = 1
theorem bt_bits (z : Int) (l : List Int) : Bits (btM z l) := fun x hx => by
  obtain ⟨y, _, rfl⟩ := List.mem_map.mp hx
  split
  · exact .inr rfl
  · exact .inl rfl
theorem bt_len (z : Int) (l : List Int) : (btM z l).length = l.length := List.length_map _
theorem zc_bt (z : Int) (l : List Int) (p : Nat) : zc (btM z l) 0 p = zc l z p := by
  unfold zc btM
  rw [← List.map_take, List.countP_map]
  congr 1
  funext x
  show decide ((if z < x then (1 : Int) else 0) ≤ 0) = decide (x ≤ z)
  by_cases h : z < x
  · rw [if_pos h, decide_eq_false (by omega), decide_eq_false (by omega)]
  · rw [if_neg h, decide_eq_true (by omega), decide_eq_true (by omega)]
theorem zc_one {l : List Int} (h : Bits l) {q : Int} (hq : 1 ≤ q) (p : Nat) : zc l q p = min p l.length := by
  unfold zc
  rw [List.countP_eq_length.mpr, List.length_take]
  intro x hx
  have := h x (List.mem_of_mem_take hx)
  rw [decide_eq_true_eq]; omega
theorem zc_neg {l : List Int} (h : Bits l) {q : Int} (hq : q < 0) (p : Nat) : zc l q p = 0 := by
  unfold zc
  rw [List.countP_eq_zero]
  intro x hx
  have := h x (List.mem_of_mem_take hx)
  rw [decide_eq_true_eq]; omega
theorem bits_most {a b : List Int} (ha : Bits a) (hb : Bits b) (hl : a.length = b.length) : AtMost a b ↔ ∀ p, p ≤ a.length → zc b 0 p ≤ zc a 0 p := by
  rw [most_zc]
  constructor
  · intro h p _; exact h p 0
  · intro h p q
    cases q with
    | zero =>
      by_cases hp : p ≤ a.length
      · exact h p hp
      · have := h a.length (Nat.le_refl _)
        rw [zc_all (l := a) (p := p) (by omega), zc_all (l := b) (p := p) (by omega)]
        rw [zc_all (l := a) (Nat.le_refl _), zc_all (l := b) (p := a.length) (by omega)] at this
        exact this
    | succ q => rw [zc_one ha (by omega), zc_one hb (by omega), hl]; exact Nat.le_refl _
theorem bits_ext {a b : List Int} (ha : Bits a) (hb : Bits b) (hl : a.length = b.length) (h : ∀ p, p ≤ a.length → zc a 0 p = zc b 0 p) : a = b :=
  zc_ext hl fun t p hp => by
    rcases Int.lt_trichotomy t 0 with g | g | g
    · rw [zc_neg ha g, zc_neg hb g]
    · rw [g]; exact h p hp
    · rw [zc_one ha (by omega), zc_one hb (by omega), hl]
theorem bits_perm {a b : List Int} (h : b.Perm a) (ha : Bits a) : Bits b := fun x hx => ha x (h.mem_iff.mp hx)
/-- the sorted bit row of a size with so many zeros -/
def sbM (n z : Nat) : List Int := btM (z : Int) (ascN n)
theorem zc_asc (n z : Nat) (hz : z ≤ n) (p : Nat) : zc (ascN n) (z : Int) p = min p z := by
  rw [up_zc (z : Int) (ascN n) p (asc_up n)]
  congr 1
  unfold ascN
  rw [List.countP_map]
  have : ∀ n, (List.range n).countP ((fun v : Int => decide (v ≤ (z : Int))) ∘ fun i : Nat => (1 + i : Int)) = min n z := fun n => by
    induction n with
    | zero => rw [Nat.zero_min]; rfl
    | succ n ih =>
      rw [List.range_succ, List.countP_append, List.countP_singleton, ih]
      by_cases e : n < z
      · rw [if_pos (by show decide ((1 : Int) + (n : Int) ≤ (z : Int)) = true; rw [decide_eq_true_eq]; omega)]
        omega
      · rw [if_neg (by show ¬ decide ((1 : Int) + (n : Int) ≤ (z : Int)) = true; rw [decide_eq_true_eq]; omega)]
        omega
  rw [this n]; omega
theorem sb_len (n z : Nat) : (sbM n z).length = n := by unfold sbM; rw [bt_len, ascN_length']
theorem zc_sb {n z : Nat} (hz : z ≤ n) (p : Nat) : zc (sbM n z) 0 p = min p z := by unfold sbM; rw [zc_bt, zc_asc n z hz]
/-- a bit row is sorted exactly if it is the sorted one -/
theorem srt_bits {a : List Int} {n z : Nat} (ha : Bits a) (hl : a.length = n) (hz : a.countP (fun v => decide (v ≤ 0)) = z) : srt a = sbM n z := by
  have hp := srt_perm a
  have hzn : z ≤ n := by rw [← hz, ← hl]; exact List.countP_le_length
  refine bits_ext (bits_perm hp ha) (show Bits (sbM n z) from bt_bits _ _) (by rw [srt_len, hl, sb_len]) fun p _ => ?_
  rw [zc_sb hzn, up_zc 0 (srt a) p (srt_up a), hp.countP_eq, hz]
/-- which bit rows get sorted -/
theorem bits_sorted {r : List Int} {n z : Nat} {cs : List Cmd} (hr : Bits r) (hl : r.length = n) (hz : r.countP (fun v => decide (v ≤ 0)) = z) (hf : Fits n cs) :
    runM r cs = srt r ↔ ∀ p, p ≤ n → zc (backM cs (ascN n)) (z : Int) p ≤ zc r 0 p := by
  have hzn : z ≤ n := by rw [← hz, ← hl]; exact List.countP_le_length
  have hsb := srt_bits hr hl hz
  have hrun : (runM r cs).Perm r := runM_perm cs r (by rw [hl]; exact hf)
  have hrl : (runM r cs).length = n := by rw [hrun.length_eq, hl]
  have hb : backM cs (sbM n z) = btM (z : Int) (backM cs (ascN n)) := back_map (bit_mono _) cs (ascN n)
  have hG := back_perm_n (List.Perm.refl (ascN n)) hf
  have hGl := perm_len hG
  have key : AtMost (runM r cs) (sbM n z) ↔ AtMost r (backM cs (sbM n z)) := gal_run cs (by rw [hl, sb_len]) (by rw [sb_len]; exact hf)
  rw [hb, bits_most hr (bt_bits _ _) (by rw [bt_len, hGl, hl]), hl] at key
  have e2 : (∀ p, p ≤ n → zc (backM cs (ascN n)) (z : Int) p ≤ zc r 0 p) ↔ AtMost (runM r cs) (sbM n z) := by
    rw [key]
    constructor
    · intro h p hp; rw [zc_bt]; exact h p hp
    · intro h p hp; have := h p hp; rw [zc_bt] at this; exact this
  rw [e2, hsb]
  constructor
  · intro e; rw [e]; exact most_refl _
  · intro h
    have h' := (bits_most (bits_perm hrun hr) (show Bits (sbM n z) from bt_bits _ _) (by rw [hrl, sb_len])).mp h
    refine bits_ext (bits_perm hrun hr) (show Bits (sbM n z) from bt_bits _ _) (by rw [hrl, sb_len]) fun p hp => ?_
    have h1 := h' p hp
    have h2 := zc_le (runM r cs) 0 p
    have h3 : zc (runM r cs) 0 p ≤ z := by
      rw [← hz, ← hrun.countP_eq]
      exact (List.take_sublist p _).countP_le
    rw [zc_sb hzn] at h1 ⊢
    omega
/-! the table of ways -/
def Wd (N : Nat → Nat) (n z : Nat) : Nat → Nat → Nat
  | 0, s => if s = z then 1 else 0
  | d + 1, s => if s ≤ z ∧ N (n - (d + 1)) ≤ s then Wd N n z d s + Wd N n z d (s + 1) else 0
def nthD (N : Nat → Nat) (n z : Nat) : Nat → Nat → Nat → List Int
  | 0, _, _ => []
  | d + 1, f, l => if l < Wd N n z d (f + 1) then 0 :: nthD N n z d (f + 1) l else 1 :: nthD N n z d f (l - Wd N n z d (f + 1))
theorem wd_succ (N : Nat → Nat) (n z d s : Nat) : Wd N n z (d + 1) s = if s ≤ z ∧ N (n - (d + 1)) ≤ s then Wd N n z d s + Wd N n z d (s + 1) else 0 := rfl
theorem nth_succ (N : Nat → Nat) (n z d f l : Nat) : nthD N n z (d + 1) f l = if l < Wd N n z d (f + 1) then 0 :: nthD N n z d (f + 1) l else 1 :: nthD N n z d f (l - Wd N n z d (f + 1)) := rfl
/-- how the counts of needed zeros go -/
structure Need (N : Nat → Nat) (n z : Nat) : Prop where
  zero : N 0 = 0
  top : N n = z
  step : ∀ p, p < n → N p ≤ N (p + 1) ∧ N (p + 1) ≤ N p + 1
theorem need_of {G : List Int} {n z : Nat} (hG : G.Perm (ascN n)) (hz : z ≤ n) : Need (fun p => zc G (z : Int) p) n z where
  zero := by unfold zc; rfl
  top := by
    show zc G (z : Int) n = z
    rw [zc_all (by rw [perm_len hG]; exact Nat.le_refl _), hG.countP_eq, ← zc_all (l := ascN n) (p := n) (by rw [ascN_length']; exact Nat.le_refl _), zc_asc n z hz]
    omega
  step p _ := zc_step G (z : Int) p
section
variable {N : Nat → Nat} {n z : Nat}
theorem need_le (h : Need N n z) : ∀ d, d ≤ n → N (n - d) ≤ z
  | 0, _ => by rw [Nat.sub_zero, h.top]; exact Nat.le_refl _
  | d + 1, hd => by
    have := (h.step (n - (d + 1)) (by omega)).1
    rw [show n - (d + 1) + 1 = n - d by omega] at this
    exact Nat.le_trans this (need_le h d (by omega))
theorem wd_out {d s : Nat} (hs : z < s) : Wd N n z d s = 0 := by
  cases d with
  | zero => unfold Wd; rw [if_neg (by omega)]
  | succ d => unfold Wd; rw [if_neg (by omega)]
theorem wd_low (h : Need N n z) {d s : Nat} (hs : s < N (n - d)) : Wd N n z d s = 0 := by
  cases d with
  | zero => unfold Wd; rw [if_neg (by rw [Nat.sub_zero, h.top] at hs; omega)]
  | succ d => unfold Wd; rw [if_neg (by omega)]
theorem wd_pos (h : Need N n z) : ∀ d, d ≤ n → 0 < Wd N n z d (N (n - d))
  | 0, _ => by unfold Wd; rw [if_pos (by rw [Nat.sub_zero, h.top])]; exact Nat.one_pos
  | d + 1, hd => by
    have ih := wd_pos h d (by omega)
    have hs := h.step (n - (d + 1)) (by omega)
    rw [show n - (d + 1) + 1 = n - d by omega] at hs
    have hle := need_le h (d + 1) hd
    unfold Wd
    rw [if_pos ⟨hle, Nat.le_refl _⟩]
    have : N (n - d) = N (n - (d + 1)) ∨ N (n - d) = N (n - (d + 1)) + 1 := by omega
    rcases this with e | e <;> rw [e] at ih <;> omega
theorem wd_le : ∀ d s, Wd N n z d s ≤ 2 ^ d
  | 0, s => by unfold Wd; split <;> simp
  | d + 1, s => by
    have h1 := wd_le d s
    have h2 := wd_le d (s + 1)
    unfold Wd
    split
    · rw [Nat.pow_succ]; omega
    · exact Nat.zero_le _
/-- what holds of the row with a number -/
theorem nth_ok (h : Need N n z) : ∀ (d f l : Nat), d ≤ n → l < Wd N n z d f → (nthD N n z d f l).length = d ∧ Bits (nthD N n z d f l) ∧ f + (nthD N n z d f l).countP (fun v => decide (v ≤ 0)) = z ∧
    ∀ j, j ≤ d → N (n - d + j) ≤ f + zc (nthD N n z d f l) 0 j
  | 0, f, l, _, hl => by
    unfold Wd at hl
    have hf : f = z := by
      by_cases e : f = z
      · exact e
      · rw [if_neg e] at hl; omega
    refine ⟨rfl, (fun x hx => by cases hx), hf, fun j hj => ?_⟩
    rw [Nat.le_zero.mp hj, Nat.sub_zero, Nat.add_zero, h.top]
    omega
  | d + 1, f, l, hd, hl => by
    have hl0 := hl
    unfold Wd at hl
    have hg : f ≤ z ∧ N (n - (d + 1)) ≤ f := by
      by_cases e : f ≤ z ∧ N (n - (d + 1)) ≤ f
      · exact e
      · rw [if_neg e] at hl; omega
    rw [if_pos hg] at hl
    have hshift : ∀ j, n - (d + 1) + (j + 1) = n - d + j := fun j => by omega
    have zc0 : ∀ (x : Int) (r : List Int) (j : Nat), zc (x :: r) 0 (j + 1) = (if x ≤ 0 then 1 else 0) + zc r 0 j := fun x r j => by
      unfold zc
      rw [List.take_succ_cons, List.countP_cons]
      by_cases e : x ≤ 0 <;> simp [e] <;> omega
    unfold nthD
    by_cases c : l < Wd N n z d (f + 1)
    · obtain ⟨i1, i2, i3, i4⟩ := nth_ok h d (f + 1) l (by omega) c
      rw [if_pos c]
      refine ⟨by rw [List.length_cons, i1], fun x hx => ?_, ?_, fun j hj => ?_⟩
      · rcases List.mem_cons.mp hx with e | e
        · exact .inl e
        · exact i2 x e
      · rw [List.countP_cons]; simp only [Int.le_refl, decide_true, if_true]; omega
      · cases j with
        | zero => rw [Nat.add_zero]; exact Nat.le_trans hg.2 (Nat.le_add_right _ _)
        | succ j =>
          have := i4 j (by omega)
          rw [hshift, zc0, if_pos (Int.le_refl 0)]
          omega
    · obtain ⟨i1, i2, i3, i4⟩ := nth_ok h d f (l - Wd N n z d (f + 1)) (by omega) (by omega)
      rw [if_neg c]
      refine ⟨by rw [List.length_cons, i1], fun x hx => ?_, ?_, fun j hj => ?_⟩
      · rcases List.mem_cons.mp hx with e | e
        · exact .inr e
        · exact i2 x e
      · rw [List.countP_cons]; simp; omega
      · cases j with
        | zero => rw [Nat.add_zero]; exact Nat.le_trans hg.2 (Nat.le_add_right _ _)
        | succ j =>
          have := i4 j (by omega)
          rw [hshift, zc0, if_neg (by decide)]
          omega
/-- the greatest one is made of the greatest row -/
theorem nth_last (h : Need N n z) {G : List Int} (hG : G.length = n) (hN : ∀ p, p < n → N (p + 1) = N p + (if G.getD p 0 ≤ (z : Int) then 1 else 0)) : ∀ d, d ≤ n → nthD N n z d (N (n - d)) (Wd N n z d (N (n - d)) - 1) = btM (z : Int) (G.drop (n - d))
  | 0, _ => by rw [Nat.sub_zero, List.drop_of_length_le (by omega)]; rfl
  | d + 1, hd => by
    have ih := nth_last h hG hN d (by omega)
    have hs := hN (n - (d + 1)) (by omega)
    rw [show n - (d + 1) + 1 = n - d by omega] at hs
    have hle := need_le h (d + 1) hd
    have hpos := wd_pos h d (by omega)
    have hlt : n - (d + 1) < G.length := by omega
    have eG : G.getD (n - (d + 1)) 0 = G[n - (d + 1)] := by simp [List.getD, hlt]
    rw [eG] at hs
    rw [List.drop_eq_getElem_cons hlt, show n - (d + 1) + 1 = n - d by omega]
    show nthD N n z (d + 1) _ _ = (if (z : Int) < G[n - (d + 1)] then (1 : Int) else 0) :: btM (z : Int) (G.drop (n - d))
    rw [wd_succ, if_pos ⟨hle, Nat.le_refl _⟩, nth_succ]
    generalize N (n - (d + 1)) = f at *
    by_cases c : G[n - (d + 1)] ≤ (z : Int)
    · rw [if_pos c] at hs
      rw [if_neg (show ¬ (z : Int) < G[n - (d + 1)] by omega), ← ih]
      have h0 : Wd N n z d f = 0 := wd_low h (by omega)
      rw [hs] at hpos ⊢
      rw [h0, Nat.zero_add, if_pos (by omega)]
    · rw [if_neg c, Nat.add_zero] at hs
      rw [if_pos (show (z : Int) < G[n - (d + 1)] by omega), ← ih]
      rw [hs] at hpos ⊢
      rw [if_neg (by omega), show Wd N n z d f + Wd N n z d (f + 1) - 1 - Wd N n z d (f + 1) = Wd N n z d f - 1 by omega]
end
/-! the law's table -/
def Vd (N : Nat → Nat) (n z : Nat) : Nat → Nat → Nat
  | 0, s => if s = z then 1 else 0
  | d + 1, s => if s ≤ z then (if N (n - d) ≤ s + 1 then Vd N n z d (s + 1) else 0) + (if N (n - d) ≤ s then Vd N n z d s else 0) else 0
def befD (N : Nat → Nat) (n z : Nat) : Nat → Nat → List Int → Nat
  | d + 1, f, x :: r => if x = 1 then Vd N n z d (f + 1) + befD N n z d f r else befD N n z d (f + 1) r
  | _, _, _ => 0
section
variable {N : Nat → Nat} {n z : Nat}
theorem wd_vd (h : Need N n z) : ∀ d s, d ≤ n → Wd N n z d s = if N (n - d) ≤ s then Vd N n z d s else 0
  | 0, s, _ => by
    unfold Wd Vd
    rw [Nat.sub_zero, h.top]
    by_cases e : s = z
    · rw [if_pos e, if_pos (by omega)]
    · rw [if_neg e]; split <;> rfl
  | d + 1, s, hd => by
    have i1 := wd_vd h d s (by omega)
    have i2 := wd_vd h d (s + 1) (by omega)
    unfold Wd Vd
    rw [i1, i2]
    by_cases g1 : s ≤ z <;> by_cases g2 : N (n - (d + 1)) ≤ s
    · rw [if_pos ⟨g1, g2⟩, if_pos g2, if_pos g1, Nat.add_comm]
    · rw [if_neg (fun q => g2 q.2), if_neg g2]
    · rw [if_neg (fun q => g1 q.1), if_pos g2, if_neg g1]
    · rw [if_neg (fun q => g1 q.1), if_neg g2]
theorem vd_zero (h : Need N n z) : Vd N n z n 0 = Wd N n z n 0 := by
  rw [wd_vd h n 0 (Nat.le_refl _), Nat.sub_self, h.zero, if_pos (Nat.le_refl _)]
theorem vd_le : ∀ d s, Vd N n z d s ≤ 2 ^ d
  | 0, s => by unfold Vd; split <;> simp
  | d + 1, s => by
    have h1 := vd_le d s
    have h2 := vd_le d (s + 1)
    unfold Vd
    rw [Nat.pow_succ]
    split
    · split <;> split <;> omega
    · exact Nat.zero_le _
/-- the number of a row is told by the rows before it -/
theorem bef_nth (h : Need N n z) : ∀ (d f l : Nat), d ≤ n → l < Wd N n z d f → befD N n z d f (nthD N n z d f l) = l
  | 0, f, l, _, hl => by
    unfold Wd at hl
    have : l = 0 := by split at hl <;> omega
    subst this; rfl
  | d + 1, f, l, hd, hl => by
    unfold Wd at hl
    have hg : f ≤ z ∧ N (n - (d + 1)) ≤ f := by
      by_cases e : f ≤ z ∧ N (n - (d + 1)) ≤ f
      · exact e
      · rw [if_neg e] at hl; omega
    rw [if_pos hg] at hl
    have hs := (h.step (n - (d + 1)) (by omega)).2
    rw [show n - (d + 1) + 1 = n - d by omega] at hs
    have e1 := wd_vd h d (f + 1) (by omega)
    rw [if_pos (by omega)] at e1
    unfold nthD
    by_cases c : l < Wd N n z d (f + 1)
    · rw [if_pos c]
      show (if (0 : Int) = 1 then _ else befD N n z d (f + 1) (nthD N n z d (f + 1) l)) = l
      rw [if_neg (by decide)]
      exact bef_nth h d (f + 1) l (by omega) c
    · rw [if_neg c]
      show (if (1 : Int) = 1 then Vd N n z d (f + 1) + befD N n z d f (nthD N n z d f (l - Wd N n z d (f + 1))) else _) = l
      rw [if_pos rfl, bef_nth h d f (l - Wd N n z d (f + 1)) (by omega) (by omega), ← e1]
      omega
end
end My
namespace My
/-- the counts of needed zeros, as a list -/
def needL (N : Nat → Nat) (k : Nat) : List Int := (List.range (k + 1)).map fun p => ((N p : Nat) : Int)
theorem needL_succ (N : Nat → Nat) (k : Nat) : needL N (k + 1) = needL N k ++ [((N (k + 1) : Nat) : Int)] := by unfold needL; rw [List.range_succ, List.map_append]; rfl
theorem needL_len (N : Nat → Nat) (k : Nat) : (needL N k).length = k + 1 := by simp [needL]
theorem needL_last (N : Nat → Nat) (k : Nat) : needL N k = (List.range k).map (fun p => ((N p : Nat) : Int)) ++ [((N k : Nat) : Int)] := by unfold needL; rw [List.range_succ, List.map_append]; rfl
/-- a row of the table -/
def rowW (N : Nat → Nat) (n z d : Nat) : List Int := (List.range (z + 2)).map fun s => ((Wd N n z d s : Nat) : Int)
theorem rowW_len (N : Nat → Nat) (n z d : Nat) : (rowW N n z d).length = z + 2 := by simp [rowW]
theorem rowW_zero (N : Nat → Nat) (n z : Nat) : rowW N n z 0 = List.replicate z 0 ++ [1, 0] := by
  refine List.ext_getElem (by simp [rowW]) fun i h1 h2 => ?_
  have hi : i < z + 2 := by rw [rowW_len] at h1; exact h1
  unfold rowW Wd
  rw [List.getElem_map, List.getElem_range]
  by_cases e : i < z
  · rw [List.getElem_append_left (by rw [List.length_replicate]; exact e), List.getElem_replicate, if_neg (by omega)]; rfl
  · rw [List.getElem_append_right (by rw [List.length_replicate]; omega)]
    have : i = z ∨ i = z + 1 := by omega
    rcases this with e | e
    · subst e; simp
    · subst e; simp
theorem rowW_at {N : Nat → Nat} {n z d s : Nat} (h : s < z + 2) : (rowW N n z d)[s]? = some ((Wd N n z d s : Nat) : Int) := by
  unfold rowW
  rw [List.getElem?_map, List.getElem?_range h]; rfl
def tabW (N : Nat → Nat) (n z : Nat) : List (List Int) := (List.range (n + 1)).map fun p => rowW N n z (n - p)
theorem tab_rev (N : Nat → Nat) (n z : Nat) : ((List.range (n + 1)).map (rowW N n z)).reverse = tabW N n z := by
  refine List.ext_getElem (by simp [tabW]) fun i h1 h2 => ?_
  have hi : i < n + 1 := by simpa [tabW] using h2
  rw [List.getElem_reverse]
  simp [tabW]
end My
namespace My
abbrev Pr := Int × Int
/-- the first number below n that p holds of -/
def firstN (p : Nat → Bool) (n : Nat) : Option Nat := ((List.range n).filter p).head?
theorem first_some {p : Nat → Bool} {n i : Nat} (hi : i < n) (h : p i = true) (hj : ∀ j, j < i → p j = false) : firstN p n = some i := by
  unfold firstN
  rw [show n = i + (n - i) by omega, List.range_add, List.filter_append, show (List.range i).filter p = [] from List.filter_eq_nil_iff.mpr fun j hm => by rw [hj j (List.mem_range.mp hm)]; decide, List.nil_append,
    show n - i = 1 + (n - i - 1) by omega, List.range_add, List.map_append, List.filter_append]
  simp [h]
theorem first_none {p : Nat → Bool} {n : Nat} (h : ∀ j, j < n → p j = false) : firstN p n = none := by
  unfold firstN
  rw [show (List.range n).filter p = [] from List.filter_eq_nil_iff.mpr fun j hm => by rw [h j (List.mem_range.mp hm)]; decide]
  rfl
theorem first_cases (p : Nat → Bool) (n : Nat) : (∃ i, firstN p n = some i ∧ i < n ∧ p i = true ∧ ∀ j, j < i → p j = false) ∨ (firstN p n = none ∧ ∀ j, j < n → p j = false) := by
  induction n with
  | zero => exact .inr ⟨rfl, fun j hj => absurd hj (Nat.not_lt_zero _)⟩
  | succ n ih =>
    rcases ih with ⟨i, e, hi, hp, hj⟩ | ⟨e, hj⟩
    · exact .inl ⟨i, first_some (by omega) hp hj, by omega, hp, hj⟩
    · cases h : p n with
      | true => exact .inl ⟨n, first_some (by omega) h hj, by omega, h, hj⟩
      | false =>
        have all : ∀ j, j < n + 1 → p j = false := fun j hm => by
          by_cases e : j = n
          · rw [e]; exact h
          · exact hj j (by omega)
        exact .inr ⟨first_none all, all⟩
theorem first_at {p : Nat → Bool} {n i : Nat} (h : firstN p n = some i) : i < n ∧ p i = true ∧ ∀ j, j < i → p j = false := by
  rcases first_cases p n with ⟨k, e, r⟩ | ⟨e, _⟩
  · rw [h] at e; cases e; exact r
  · rw [h] at e; cases e
theorem first_no {p : Nat → Bool} {n : Nat} (h : firstN p n = none) : ∀ j, j < n → p j = false := by
  rcases first_cases p n with ⟨k, e, _⟩ | ⟨_, r⟩
  · rw [h] at e; cases e
  · exact r
/-- a pair that fits -/
def FitW (n : Int) (c : Pr) : Prop := 1 ≤ c.1 ∧ c.1 ≤ c.2 ∧ c.2 ≤ n
instance (n : Int) (c : Pr) : Decidable (FitW n c) := by unfold FitW; infer_instance
/-- the first pair that does not fit -/
def wrW (n : Int) (ws : List Pr) (i : Nat) : Bool := !decide (FitW n (ws.getD i (0, 0)))
def eW (n : Int) (ws : List Pr) : Option Nat := firstN (wrW n ws) ws.length
/-- the first value that is no value of an arrangement -/
def wrR (ns : List Int) (i : Nat) : Bool := !decide (1 ≤ ns.getD i 0 ∧ ns.getD i 0 ≤ (ns.length : Int) ∧ ns.getD i 0 ∉ ns.take i)
def eR (ns : List Int) : Option Nat := firstN (wrR ns) ns.length
theorem wrW_at {n : Int} {ws : List Pr} {i : Nat} {c : Pr} (h : ws[i]? = some c) : wrW n ws i = !decide (FitW n c) := by
  unfold wrW; rw [List.getD_eq_getElem?_getD, h]; rfl
theorem wrR_at {ns : List Int} {i : Nat} (h : i < ns.length) : wrR ns i = !decide (1 ≤ ns[i] ∧ ns[i] ≤ (ns.length : Int) ∧ ns[i] ∉ ns.take i) := by
  unfold wrR; rw [List.getD_eq_getElem?_getD, List.getElem?_eq_getElem h]; rfl
theorem eW_fits {n : Int} {ws : List Pr} (h : eW n ws = none) : ∀ c ∈ ws, FitW n c := fun c hc => by
  obtain ⟨i, hi, e⟩ := List.getElem_of_mem hc
  have := first_no h i hi
  rw [wrW_at (c := c) (by rw [List.getElem?_eq_getElem hi, e])] at this
  simpa using this
def toW (c : Cmd) : Pr := ((c.1 : Int), (c.2 : Int))
/-- pairs that fit are commands -/
theorem fits_cmds {n : Nat} : ∀ {ws : List Pr}, (∀ c ∈ ws, FitW (n : Int) c) → ∃ cs : List Cmd, Fits n cs ∧ ws = cs.map toW
  | [], _ => ⟨[], fun _ h => (by cases h), rfl⟩
  | c :: r, h => by
    obtain ⟨cs, hf, e⟩ := fits_cmds (ws := r) fun c hc => h c (List.mem_cons_of_mem _ hc)
    have hc := h c List.mem_cons_self
    unfold FitW at hc
    refine ⟨(c.1.toNat, c.2.toNat) :: cs, fun d hd => ?_, ?_⟩
    · rcases List.mem_cons.mp hd with q | q
      · rw [q]
        have h1 : ((c.1.toNat, c.2.toNat) : Cmd).1 = c.1.toNat := rfl
        have h2 : ((c.1.toNat, c.2.toNat) : Cmd).2 = c.2.toNat := rfl
        rw [h1, h2]; omega
      · exact hf d q
    · rw [List.map_cons, ← e]
      congr 1
      unfold toW
      exact Prod.ext (by show c.1 = ((c.1.toNat : Nat) : Int); omega) (by show c.2 = ((c.2.toNat : Nat) : Int); omega)
theorem nodup_permX : ∀ {l m : List Int}, l.Nodup → (∀ v ∈ l, v ∈ m) → m.length = l.length → l.Perm m
  | [], m, _, _, h => by rw [List.eq_nil_of_length_eq_zero h]
  | x :: r, m, hn, hs, h => by
    have h1 := List.nodup_cons.mp hn
    have hx := hs x List.mem_cons_self
    have hp := List.perm_cons_erase hx
    have hl := hp.length_eq
    rw [List.length_cons] at hl h
    refine ((nodup_permX (m := m.erase x) h1.2 (fun v hv => ?_) (by omega)).cons x).trans hp.symm
    have hne : v ≠ x := fun e => h1.1 (e ▸ hv)
    exact (List.mem_erase_of_ne hne).mpr (hs v (List.mem_cons_of_mem _ hv))
theorem eR_arr {ns : List Int} (h : eR ns = none) : IsArr ns := by
  have g := first_no h
  have all : ∀ i (hi : i < ns.length), 1 ≤ ns[i] ∧ ns[i] ≤ (ns.length : Int) ∧ ns[i] ∉ ns.take i := fun i hi => by
    have := g i hi
    rw [wrR_at hi] at this
    simpa using this
  refine ⟨?_, fun v hv => ?_⟩
  · rw [List.Nodup, List.pairwise_iff_getElem]
    intro i j hi hj hij e
    refine (all j hj).2.2 ?_
    rw [← e]
    exact List.mem_take_iff_getElem.mpr ⟨i, by omega, rfl⟩
  · obtain ⟨i, hi, e⟩ := List.getElem_of_mem hv
    rw [← e]
    exact ⟨(all i hi).1, (all i hi).2.1⟩
theorem arr_eR {ns : List Int} (h : IsArr ns) : eR ns = none := first_none fun i hi => by
  rw [wrR_at hi]
  have h1 := h.2 _ (List.getElem_mem hi)
  have h2 : ns[i] ∉ ns.take i := fun hm => by
    obtain ⟨j, hj, e⟩ := List.mem_take_iff_getElem.mp hm
    have := List.pairwise_iff_getElem.mp (show ns.Pairwise (· ≠ ·) from h.1) j i (by omega) hi (by omega)
    exact this e
  simp [h1.1, h1.2, h2]
theorem arr_perm {ns : List Int} (h : IsArr ns) : ns.Perm (ascN ns.length) := nodup_permX h.1 (fun v hv => by
  have := h.2 v hv
  unfold ascN
  exact List.mem_map.mpr ⟨(v - 1).toNat, List.mem_range.mpr (by omega), by show (1 : Int) + ((v - 1).toNat : Int) = v; omega⟩) (by simp [ascN])
theorem toW_fit {n : Nat} {cs : List Cmd} (h : Fits n cs) : eW (n : Int) (cs.map toW) = none := first_none fun i hi => by
  have hi' : i < cs.length := by simpa using hi
  rw [wrW_at (c := toW cs[i]) (by rw [List.getElem?_map, List.getElem?_eq_getElem hi']; rfl)]
  have := h cs[i] (List.getElem_mem hi')
  have g : FitW (n : Int) (toW cs[i]) := by unfold FitW toW; refine ⟨?_, ?_, ?_⟩ <;> simp only <;> omega
  simp [g]
end My
namespace My
open PySem PySem.Spec PyProof.Rows
/-! count_sorted's dict: sets (rising lists) and how many ways -/
abbrev Cnt := List (List Int × Nat)
def getC (m : Cnt) (k : List Int) : Nat := ((m.find? fun p => decide (p.1 = k)).map (·.2)).getD 0
def putC (m : Cnt) (k : List Int) (v : Nat) : Cnt := if (m.any fun p => decide (p.1 = k)) = true then m.map (fun p => if p.1 = k then (p.1, v) else p) else m ++ [(k, v)]
/-- each entry is at most its limit -/
def fitL (xs ls : List Int) : Bool := (xs.zip ls).all fun p => decide (p.1 ≤ p.2)
def stepC (ls held : List Int) (ways : Nat) (acc : Cnt) (v : Int) : Cnt :=
  if v ∈ held then acc else if fitL (srt (held ++ [v])) ls = true then putC acc (srt (held ++ [v])) (getC acc (srt (held ++ [v])) + ways) else acc
def longC (ls : List Int) (t : Nat) (m : Cnt) : Cnt := m.foldl (fun acc p => (ascN t).foldl (stepC ls p.1 p.2) acc) []
theorem putC_len (m : Cnt) (k : List Int) (v : Nat) : (putC m k v).length ≤ m.length + 1 := by
  unfold putC
  split
  · rw [List.length_map]; omega
  · rw [List.length_append]; exact Nat.le_refl _
theorem stepC_len (ls held : List Int) (ways : Nat) (acc : Cnt) (v : Int) : (stepC ls held ways acc v).length ≤ acc.length + 1 := by
  unfold stepC
  split
  · omega
  · split
    · exact putC_len _ _ _
    · omega
theorem foldC_len (ls held : List Int) (ways : Nat) : ∀ (vs : List Int) (acc : Cnt), (vs.foldl (stepC ls held ways) acc).length ≤ acc.length + vs.length
  | [], acc => Nat.le_refl _
  | v :: vs, acc => by
    have h1 := foldC_len ls held ways vs (stepC ls held ways acc v)
    have h2 := stepC_len ls held ways acc v
    simp only [List.foldl_cons, List.length_cons]
    omega
theorem fold_take_succ {α β : Type} (f : β → α → β) (b : β) (l : List α) {i : Nat} (h : i < l.length) : (l.take (i + 1)).foldl f b = f ((l.take i).foldl f b) l[i] := by
  rw [List.take_succ, List.getElem?_eq_getElem h, List.foldl_append]
  rfl
end My
namespace My
/-! ### count_sorted: its keys -/
def keysC (m : Cnt) : List (List Int) := m.map (·.1)
theorem putC_keys (m : Cnt) (k : List Int) (v : Nat) : keysC (putC m k v) = if k ∈ keysC m then keysC m else keysC m ++ [k] := by
  unfold putC keysC
  by_cases h : (m.any fun p => decide (p.1 = k)) = true
  · rw [if_pos h]
    have hk : k ∈ m.map (·.1) := by
      obtain ⟨p, hp, e⟩ := List.any_eq_true.mp h
      exact List.mem_map.mpr ⟨p, hp, of_decide_eq_true e⟩
    rw [if_pos hk, List.map_map]
    refine List.map_congr_left fun p _ => ?_
    show (if p.1 = k then (p.1, v) else p).1 = p.1
    split <;> rfl
  · rw [if_neg h]
    have hk : ¬ k ∈ m.map (·.1) := fun z => h (by
      obtain ⟨p, hp, e⟩ := List.mem_map.mp z
      exact List.any_eq_true.mpr ⟨p, hp, decide_eq_true e⟩)
    rw [if_neg hk, List.map_append]
    rfl
theorem putC_nodup {m : Cnt} {k : List Int} {v : Nat} (h : (keysC m).Nodup) : (keysC (putC m k v)).Nodup := by
  rw [putC_keys]
  split
  · exact h
  · rename_i g
    rw [List.nodup_append]
    exact ⟨h, List.nodup_cons.mpr ⟨by simp, List.nodup_nil⟩, fun a ha b hb => by rw [List.mem_singleton.mp hb]; intro e; exact g (e ▸ ha)⟩
theorem putC_mem {m : Cnt} {k x : List Int} {v : Nat} : x ∈ keysC (putC m k v) ↔ x ∈ keysC m ∨ x = k := by
  rw [putC_keys]
  split
  · rename_i g
    exact ⟨.inl, fun h => h.elim id fun e => e ▸ g⟩
  · rw [List.mem_append, List.mem_singleton]
theorem stepC_mem {ls held x : List Int} {w : Nat} {acc : Cnt} {v : Int} : x ∈ keysC (stepC ls held w acc v) ↔ x ∈ keysC acc ∨ (v ∉ held ∧ fitL (srt (held ++ [v])) ls = true ∧ x = srt (held ++ [v])) := by
  unfold stepC
  split
  · rename_i h
    exact ⟨.inl, fun z => z.elim id fun z => absurd h z.1⟩
  · rename_i h
    split
    · rename_i g
      rw [putC_mem]
      exact ⟨fun z => z.imp id fun e => ⟨h, g, e⟩, fun z => z.imp id fun e => e.2.2⟩
    · rename_i g
      exact ⟨.inl, fun z => z.elim id fun z => absurd z.2.1 g⟩
theorem stepC_nodup {ls held : List Int} {w : Nat} {acc : Cnt} {v : Int} (h : (keysC acc).Nodup) : (keysC (stepC ls held w acc v)).Nodup := by
  unfold stepC
  split
  · exact h
  · split
    · exact putC_nodup h
    · exact h
theorem foldC_mem {ls held x : List Int} {w : Nat} : ∀ (vs : List Int) (acc : Cnt), x ∈ keysC (vs.foldl (stepC ls held w) acc) ↔ x ∈ keysC acc ∨ ∃ v ∈ vs, v ∉ held ∧ fitL (srt (held ++ [v])) ls = true ∧ x = srt (held ++ [v])
  | [], acc => ⟨.inl, fun z => z.elim id fun ⟨v, hv, _⟩ => nomatch hv⟩
  | v :: vs, acc => by
    rw [List.foldl_cons, foldC_mem vs, stepC_mem]
    constructor
    · rintro ((z | z) | ⟨u, hu, z⟩)
      · exact .inl z
      · exact .inr ⟨v, List.mem_cons_self, z⟩
      · exact .inr ⟨u, List.mem_cons_of_mem _ hu, z⟩
    · rintro (z | ⟨u, hu, z⟩)
      · exact .inl (.inl z)
      · rcases List.mem_cons.mp hu with e | e
        · subst e; exact .inl (.inr z)
        · exact .inr ⟨u, e, z⟩
theorem foldC_nodup {ls held : List Int} {w : Nat} : ∀ (vs : List Int) (acc : Cnt), (keysC acc).Nodup → (keysC (vs.foldl (stepC ls held w) acc)).Nodup
  | [], _, h => h
  | v :: vs, acc, h => foldC_nodup vs _ (stepC_nodup h)
theorem fold2_mem {ls x : List Int} {t : Nat} : ∀ (m acc : Cnt), x ∈ keysC (m.foldl (fun acc p => (ascN t).foldl (stepC ls p.1 p.2) acc) acc) ↔ x ∈ keysC acc ∨ ∃ held ∈ keysC m, ∃ v ∈ ascN t, v ∉ held ∧ fitL (srt (held ++ [v])) ls = true ∧ x = srt (held ++ [v])
  | [], acc => ⟨.inl, fun z => z.elim id fun ⟨v, hv, _⟩ => nomatch hv⟩
  | p :: m, acc => by
    rw [List.foldl_cons, fold2_mem m, foldC_mem]
    constructor
    · rintro ((z | z) | ⟨u, hu, z⟩)
      · exact .inl z
      · exact .inr ⟨p.1, List.mem_cons_self, z⟩
      · exact .inr ⟨u, List.mem_cons_of_mem _ hu, z⟩
    · rintro (z | ⟨u, hu, z⟩)
      · exact .inl (.inl z)
      · rcases List.mem_cons.mp hu with e | e
        · have e' : u = p.1 := e
          subst e'; exact .inl (.inr z)
        · exact .inr ⟨u, e, z⟩
theorem longC_mem {ls x : List Int} {t : Nat} {m : Cnt} : x ∈ keysC (longC ls t m) ↔ ∃ held ∈ keysC m, ∃ v ∈ ascN t, v ∉ held ∧ fitL (srt (held ++ [v])) ls = true ∧ x = srt (held ++ [v]) := by
  unfold longC
  rw [fold2_mem]
  exact ⟨fun z => z.elim (fun z => nomatch z) id, .inr⟩
theorem longC_nodup {ls : List Int} {t : Nat} : ∀ {m : Cnt}, (keysC (longC ls t m)).Nodup := by
  intro m
  unfold longC
  have : ∀ (m acc : Cnt), (keysC acc).Nodup → (keysC (m.foldl (fun acc p => (ascN t).foldl (stepC ls p.1 p.2) acc) acc)).Nodup := by
    intro m
    induction m with
    | nil => exact fun _ h => h
    | cons p m ih => exact fun acc h => ih _ (foldC_nodup _ _ h)
  exact this m [] List.nodup_nil
/-! ### few keys -/
def subsM : List Int → List (List Int)
  | [] => [[]]
  | x :: r => subsM r ++ (subsM r).map (x :: ·)
theorem subs_len : ∀ l : List Int, (subsM l).length = 2 ^ l.length
  | [] => rfl
  | x :: r => by
    show (subsM r ++ (subsM r).map (x :: ·)).length = _
    rw [List.length_append, List.length_map, subs_len r, List.length_cons, Nat.pow_succ]; omega
theorem subs_mem : ∀ {l k : List Int}, l.Pairwise (· < ·) → k.Pairwise (· < ·) → (∀ v ∈ k, v ∈ l) → k ∈ subsM l
  | [], k, _, _, h => by
    cases k with
    | nil => exact List.mem_singleton.mpr rfl
    | cons v r => exact nomatch h v List.mem_cons_self
  | x :: r, k, hl, hk, h => by
    have h1 := List.pairwise_cons.mp hl
    show k ∈ subsM r ++ (subsM r).map (x :: ·)
    rw [List.mem_append]
    cases k with
    | nil => exact .inl (subs_mem h1.2 hk fun v hv => nomatch hv)
    | cons v s =>
      have h2 := List.pairwise_cons.mp hk
      have rest : ∀ w ∈ s, w ∈ r := fun w hw => by
        have a := h2.1 w hw
        rcases List.mem_cons.mp (h w (List.mem_cons_of_mem _ hw)) with e | e
        · rcases List.mem_cons.mp (h v List.mem_cons_self) with e2 | e2
          · omega
          · have := h1.1 v e2; omega
        · exact e
      rcases List.mem_cons.mp (h v List.mem_cons_self) with e | e
      · subst e
        exact .inr (List.mem_map.mpr ⟨s, subs_mem h1.2 h2.2 rest, rfl⟩)
      · exact .inl (subs_mem h1.2 hk fun w hw => by
          rcases List.mem_cons.mp hw with z | z
          · subst z; exact e
          · exact rest w z)
theorem nodup_len {α : Type} [DecidableEq α] : ∀ {l m : List α}, l.Nodup → (∀ v ∈ l, v ∈ m) → l.length ≤ m.length
  | [], m, _, _ => Nat.zero_le _
  | x :: r, m, hn, hs => by
    have h1 := List.nodup_cons.mp hn
    have hx := hs x List.mem_cons_self
    have hp := List.perm_cons_erase hx
    have hl := hp.length_eq
    rw [List.length_cons] at hl
    have := nodup_len (m := m.erase x) h1.2 fun v hv => (List.mem_erase_of_ne (fun e => h1.1 (by rw [← e]; exact hv))).mpr (hs v (List.mem_cons_of_mem _ hv))
    rw [List.length_cons]
    omega
theorem asc_lt' (n : Nat) : (ascN n).Pairwise (· < ·) := by
  unfold ascN
  rw [List.pairwise_map, List.pairwise_iff_getElem]
  intro i j hi hj hij
  simp only [List.getElem_range]
  omega
/-- keys hold different values of 1 to n, rising -/
def KeysIn (n : Nat) (m : Cnt) : Prop := (keysC m).Nodup ∧ ∀ k ∈ keysC m, k.Pairwise (· < ·) ∧ ∀ v ∈ k, v ∈ ascN n
theorem KeysIn.few {n : Nat} {m : Cnt} (h : KeysIn n m) : m.length ≤ 2 ^ n := by
  have : (keysC m).length ≤ (subsM (ascN n)).length := nodup_len h.1 fun k hk => subs_mem (asc_lt' n) (h.2 k hk).1 (h.2 k hk).2
  rw [subs_len] at this
  have e : (ascN n).length = n := by simp [ascN]
  rw [e] at this
  unfold keysC at this
  rwa [List.length_map] at this
theorem srt_lt {l : List Int} (h : l.Nodup) : (srt l).Pairwise (· < ·) := by
  have h1 := srt_up l
  have h2 : (srt l).Nodup := (srt_perm l).nodup_iff.mpr h
  exact (List.Pairwise.and h1 h2).imp fun ⟨a, b⟩ => by omega
theorem asc_mem {n : Nat} {v : Int} : v ∈ ascN n ↔ 1 ≤ v ∧ v ≤ (n : Int) := by
  unfold ascN
  rw [List.mem_map]
  constructor
  · rintro ⟨i, hi, rfl⟩
    have := List.mem_range.mp hi
    omega
  · intro h
    exact ⟨(v - 1).toNat, List.mem_range.mpr (by omega), by omega⟩
theorem keysIn_long {n t : Nat} {ls : List Int} {m : Cnt} (h : KeysIn n m) (ht : t ≤ n) : KeysIn n (longC ls t m) := by
  refine ⟨longC_nodup, fun k hk => ?_⟩
  obtain ⟨held, hh, v, hv, hvh, _, rfl⟩ := longC_mem.mp hk
  obtain ⟨g1, g2⟩ := h.2 held hh
  refine ⟨srt_lt ?_, fun w hw => ?_⟩
  · rw [List.nodup_append]
    exact ⟨g1.imp fun a => by omega, List.nodup_cons.mpr ⟨by simp, List.nodup_nil⟩, fun a ha b hb => by rw [List.mem_singleton.mp hb]; intro e; exact hvh (e ▸ ha)⟩
  · rcases List.mem_append.mp ((srt_perm _).mem_iff.mp hw) with z | z
    · exact g2 w z
    · rw [List.mem_singleton.mp z]
      have := asc_mem.mp hv
      exact asc_mem.mpr ⟨this.1, by omega⟩
/-- count_sorted's dict behind the first k places of a row -/
def cntM (g : List Int) : Nat → Cnt
  | 0 => [([], 1)]
  | k + 1 => longC (srt (g.take (k + 1))) ((srt (g.take (k + 1))).getLastD 0).toNat (cntM g k)
theorem last_max {l : List Int} (h : l.Pairwise (· ≤ ·)) : ∀ v ∈ l, v ≤ l.getLastD 0 := by
  intro v hv
  have hne : l ≠ [] := fun e => by rw [e] at hv; cases hv
  rw [List.getLastD_eq_getLast?, List.getLast?_eq_some_getLast hne]
  show v ≤ l.getLast hne
  rw [← List.dropLast_concat_getLast hne] at hv h
  rcases List.mem_append.mp hv with z | z
  · exact (List.pairwise_append.mp h).2.2 v z _ (List.mem_singleton.mpr rfl)
  · rw [List.mem_singleton.mp z]; exact Int.le_refl _
theorem last_in {l : List Int} (h : l ≠ []) : l.getLastD 0 ∈ l := by
  rw [List.getLastD_eq_getLast?, List.getLast?_eq_some_getLast h]
  exact List.getLast_mem h
theorem fit_self (l : List Int) : fitL l l = true := by
  unfold fitL
  rw [List.all_eq_true]
  intro p hp
  obtain ⟨i, hi, e⟩ := List.getElem_of_mem hp
  rw [List.getElem_zip] at e
  rw [← e]
  simp
theorem cnt_keys {n : Nat} {g : List Int} (hg : g.Perm (ascN n)) : ∀ k, k ≤ n → KeysIn n (cntM g k) ∧ srt (g.take k) ∈ keysC (cntM g k)
  | 0, _ => ⟨⟨List.nodup_cons.mpr ⟨by simp, List.nodup_nil⟩, fun k hk => by
      rw [List.mem_singleton.mp hk]; exact ⟨List.Pairwise.nil, fun v hv => nomatch hv⟩⟩, List.mem_singleton.mpr rfl⟩
  | k + 1, hk => by
    obtain ⟨h1, h2⟩ := cnt_keys hg k (by omega)
    have hl : g.length = n := by rw [hg.length_eq]; simp [ascN]
    have hkl : k < g.length := by omega
    have hin : ∀ v ∈ srt (g.take (k + 1)), v ∈ ascN n := fun v hv => hg.mem_iff.mp (List.mem_of_mem_take ((srt_perm _).mem_iff.mp hv))
    have hne : srt (g.take (k + 1)) ≠ [] := fun e => by
      have := srt_len (g.take (k + 1))
      rw [e, List.length_take] at this
      simp at this
      omega
    have htm := hin _ (last_in hne)
    have htn := (asc_mem.mp htm)
    refine ⟨keysIn_long h1 (by omega), ?_⟩
    have hnd : (g.take (k + 1)).Nodup := (hg.nodup_iff.mpr (arr_asc (List.Perm.refl _)).1).sublist (List.take_sublist _ _)
    have et : g.take (k + 1) = g.take k ++ [g[k]] := by rw [List.take_succ, List.getElem?_eq_getElem hkl]; rfl
    have ep : (srt (g.take k) ++ [g[k]]).Perm (g.take (k + 1)) := by rw [et]; exact (srt_perm _).append_right _
    have es : srt (srt (g.take k) ++ [g[k]]) = srt (g.take (k + 1)) := srt_is ((srt_perm _).trans ep) (srt_up _)
    refine longC_mem.mpr ⟨_, h2, g[k], ?_, ?_, by rw [es]; exact fit_self _, es.symm⟩
    · have m1 : g[k] ∈ srt (g.take (k + 1)) := (srt_perm _).mem_iff.mpr (by rw [et]; exact List.mem_append_right _ (List.mem_singleton.mpr rfl))
      have := last_max (srt_up _) _ m1
      have := asc_mem.mp (hin _ m1)
      exact asc_mem.mpr ⟨this.1, by omega⟩
    · intro z
      have z' := (srt_perm _).mem_iff.mp z
      rw [et, List.nodup_append] at hnd
      exact hnd.2.2 _ z' _ (List.mem_singleton.mpr rfl) rfl
theorem getC_key {m : Cnt} {k : List Int} (h : k ∈ keysC m) : ∃ p, m.find? (fun p => decide (p.1 = k)) = some p := by
  cases e : m.find? (fun p => decide (p.1 = k)) with
  | some p => exact ⟨p, rfl⟩
  | none =>
    obtain ⟨p, hp, z⟩ := List.mem_map.mp h
    have := List.find?_eq_none.mp e p hp
    exact absurd (decide_eq_true z) this
end My
namespace My
/-! ### rows in ascending order (as words), the next arrangement -/
def lx : List Int → List Int → Prop
  | [], _ => False
  | _ :: _, [] => False
  | x :: r, y :: s => x < y ∨ (x = y ∧ lx r s)
theorem lx_irr : ∀ {a : List Int}, ¬ lx a a
  | [], h => h
  | x :: r, h => by
    rcases h with h | ⟨_, h⟩
    · omega
    · exact lx_irr h
theorem lx_trans : ∀ {a b c : List Int}, lx a b → lx b c → lx a c
  | [], _, _, h, _ => h.elim
  | _ :: _, [], _, h, _ => h.elim
  | _ :: _, _ :: _, [], _, h => h.elim
  | x :: r, y :: s, z :: t, h, g => by
    rcases h with h | ⟨e, h⟩
    · rcases g with g | ⟨e2, g⟩
      · exact .inl (by omega)
      · exact .inl (by omega)
    · rcases g with g | ⟨e2, g⟩
      · exact .inl (by omega)
      · exact .inr ⟨by omega, lx_trans h g⟩
theorem lx_tot : ∀ {a b : List Int}, a.length = b.length → lx a b ∨ a = b ∨ lx b a
  | [], [], _ => .inr (.inl rfl)
  | [], _ :: _, h => by simp at h
  | _ :: _, [], h => by simp at h
  | x :: r, y :: s, h => by
    rcases Int.lt_trichotomy x y with g | g | g
    · exact .inl (.inl g)
    · subst g
      rcases lx_tot (a := r) (b := s) (by simpa using h) with k | k | k
      · exact .inl (.inr ⟨rfl, k⟩)
      · exact .inr (.inl (by rw [k]))
      · exact .inr (.inr (.inr ⟨rfl, k⟩))
    · exact .inr (.inr (.inl g))
theorem lx_app (p : List Int) {a b : List Int} (h : lx a b) : lx (p ++ a) (p ++ b) := by
  induction p with
  | nil => exact h
  | cons c p ih => exact .inr ⟨rfl, ih⟩
theorem lx_ext : ∀ {c c' : List Int} (v v' : List Int), c.length = c'.length → lx c c' → lx (c ++ v) (c' ++ v')
  | [], _, _, _, _, h => h.elim
  | _ :: _, [], _, _, _, h => h.elim
  | x :: r, y :: s, v, v', hl, h => by
    rcases h with h | ⟨e, h⟩
    · exact .inl h
    · exact .inr ⟨e, lx_ext v v' (by simpa using hl) h⟩
theorem lx_pre : ∀ {p a b s : List Int}, lx (p ++ a) s → lx s (p ++ b) → ∃ s', s = p ++ s' ∧ lx a s' ∧ lx s' b
  | [], _, _, s, h, g => ⟨s, rfl, h, g⟩
  | c :: p, a, b, [], h, g => h.elim
  | c :: p, a, b, y :: s, h, g => by
    have hcy : c = y := by
      rcases h with h | ⟨h, _⟩ <;> rcases g with g | ⟨g, _⟩ <;> omega
    subst hcy
    have h' : lx (p ++ a) s := by
      rcases h with h | ⟨_, h⟩
      · omega
      · exact h
    have g' : lx s (p ++ b) := by
      rcases g with g | ⟨_, g⟩
      · omega
      · exact g
    obtain ⟨s', e, z1, z2⟩ := lx_pre h' g'
    exact ⟨s', by rw [e]; rfl, z1, z2⟩
/-- the rising one is the least, the falling one the greatest -/
theorem up_least : ∀ {u s : List Int}, u.Pairwise (· ≤ ·) → s.Perm u → ¬ lx s u
  | [], s, _, h, g => by rw [h.eq_nil] at g; exact g
  | x :: u, [], _, h, _ => absurd h.symm.eq_nil (by simp)
  | x :: u, y :: s, hu, h, g => by
    have h1 := List.pairwise_cons.mp hu
    rcases g with g | ⟨e, g⟩
    · rcases List.mem_cons.mp (h.mem_iff.mp List.mem_cons_self) with z | z
      · omega
      · have := h1.1 y z; omega
    · subst e
      exact up_least h1.2 ((List.perm_cons _).mp h) g
theorem down_most : ∀ {u s : List Int}, u.Pairwise (· ≥ ·) → s.Perm u → ¬ lx u s
  | [], s, _, h, g => g
  | x :: u, [], _, h, g => g
  | x :: u, y :: s, hu, h, g => by
    have h1 := List.pairwise_cons.mp hu
    rcases g with g | ⟨e, g⟩
    · rcases List.mem_cons.mp (h.mem_iff.mp List.mem_cons_self) with z | z
      · omega
      · have := h1.1 y z; omega
    · subst e
      exact down_most h1.2 ((List.perm_cons _).mp h) g
/-- one step of next_arrangement: the first places p, the value x that gives way, the falling rest d, the new value v -/
theorem nxt_lt (p : List Int) {x v : Int} {d t : List Int} (h : x < v) : lx (p ++ x :: d) (p ++ v :: t) := lx_app p (.inl h)
theorem nxt_perm {p d : List Int} {x v : Int} (hn : (p ++ x :: d).Nodup) (hv : v ∈ d) : (p ++ v :: srt ((x :: d).filter fun y => !decide (y = v))).Perm (p ++ x :: d) := by
  refine List.Perm.append_left p ?_
  have hn2 : (x :: d).Nodup := (List.nodup_append.mp hn).2.1
  have hv2 : v ∈ x :: d := List.mem_cons_of_mem _ hv
  have e : (x :: d).filter (fun y => !decide (y = v)) = (x :: d).erase v := by
    rw [hn2.erase_eq_filter]
    refine List.filter_congr fun y _ => ?_
    by_cases z : y = v
    · simp [z]
    · simp [z]
  rw [e]
  exact ((srt_perm _).cons v).trans (List.perm_cons_erase hv2).symm
theorem nxt_succ {p d s : List Int} {x v : Int} (hn : (p ++ x :: d).Nodup) (hd : d.Pairwise (· ≥ ·)) (hv : v ∈ d) (hxv : x < v) (hmin : ∀ y ∈ d, x < y → v ≤ y) (hs : s.Perm (p ++ x :: d)) (h1 : lx (p ++ x :: d) s) :
    ¬ lx s (p ++ v :: srt ((x :: d).filter fun y => !decide (y = v))) := by
  intro h2
  obtain ⟨s', rfl, g1, g2⟩ := lx_pre h1 h2
  have hs' := (List.perm_append_left_iff p).mp hs
  cases s' with
  | nil => exact g1
  | cons y s2 =>
    have hy : y ∈ x :: d := hs'.mem_iff.mp List.mem_cons_self
    rcases g1 with g1 | ⟨e, g1⟩
    · have hyd : y ∈ d := by
        rcases List.mem_cons.mp hy with z | z
        · omega
        · exact z
      have hvy := hmin y hyd g1
      rcases g2 with g2 | ⟨e, g2⟩
      · omega
      · subst e
        have hp := nxt_perm (p := []) (x := x) (by simpa using (List.nodup_append.mp hn).2.1) hv
        have hp2 := (hs'.trans hp.symm)
        simp only [List.nil_append] at hp2
        have hp3 := (List.perm_cons _).mp hp2
        exact up_least (srt_up _) hp3 g2
    · subst e
      exact down_most hd ((List.perm_cons _).mp hs') g1
/-- where the falling end begins -/
def tailD (r : List Int) : Nat → Nat
  | 0 => 0
  | k + 1 => if r.getD (k + 1) 0 < r.getD k 0 then tailD r k else k + 1
theorem tailD_le (r : List Int) : ∀ k, tailD r k ≤ k
  | 0 => Nat.le_refl _
  | k + 1 => by
    unfold tailD
    split
    · exact Nat.le_succ_of_le (tailD_le r k)
    · exact Nat.le_refl _
theorem tailD_down (r : List Int) : ∀ k, ∀ a b, tailD r k ≤ a → a < b → b ≤ k → r.getD b 0 < r.getD a 0
  | 0, a, b, h1, h2, h3 => by omega
  | k + 1, a, b, h1, h2, h3 => by
    unfold tailD at h1
    split at h1
    · rename_i g
      by_cases e : b = k + 1
      · subst e
        by_cases e2 : a = k
        · subst e2; exact g
        · have := tailD_down r k a k h1 (by omega) (Nat.le_refl _); omega
      · exact tailD_down r k a b h1 h2 (by omega)
    · omega
theorem tailD_top (r : List Int) : ∀ k, tailD r k ≠ 0 → ¬ r.getD (tailD r k) 0 < r.getD (tailD r k - 1) 0
  | 0, h => absurd rfl h
  | k + 1, h => by
    unfold tailD at h ⊢
    split
    · rename_i g
      rw [if_pos g] at h
      exact tailD_top r k h
    · rename_i g
      exact g
theorem drop_pair {r : List Int} {s : Nat} {R : Int → Int → Prop} (h : ∀ a b, s ≤ a → a < b → b < r.length → R (r.getD a 0) (r.getD b 0)) : (r.drop s).Pairwise R := by
  rw [List.pairwise_iff_getElem]
  intro i j hi hj hij
  rw [List.length_drop] at hi hj
  rw [List.getElem_drop, List.getElem_drop]
  have := h (s + i) (s + j) (by omega) (by omega) (by omega)
  rw [← getD_at (by omega), ← getD_at (by omega)] at this
  exact this
/-- what comes next, with the least greater value v of the rest -/
def nextR (r : List Int) (s : Nat) (v : Int) : List Int := r.take (s - 1) ++ v :: srt ((r.drop (s - 1)).filter fun y => !decide (y = v))
def IsNext (r : List Int) (o : Option (List Int)) : Prop := match o with
  | none => ∀ s, s.Perm r → ¬ lx r s
  | some r' => r'.Perm r ∧ lx r r' ∧ ∀ s, s.Perm r → lx r s → ¬ lx s r'
theorem next_none {r : List Int} (h : tailD r (r.length - 1) = 0) : IsNext r none := by
  have hd : (r.drop 0).Pairwise (· ≥ ·) := drop_pair fun a b h1 h2 h3 => by
    have := tailD_down r (r.length - 1) a b (by omega) h2 (by omega)
    show r.getD a 0 ≥ r.getD b 0
    omega
  intro s hs
  exact down_most hd hs
theorem next_some {r : List Int} {v : Int} (hn : r.Nodup) (h : tailD r (r.length - 1) ≠ 0) (hv : v ∈ r.drop (tailD r (r.length - 1))) (hg : r.getD (tailD r (r.length - 1) - 1) 0 < v)
    (hm : ∀ y ∈ r.drop (tailD r (r.length - 1)), r.getD (tailD r (r.length - 1) - 1) 0 < y → v ≤ y) : IsNext r (some (nextR r (tailD r (r.length - 1)) v)) := by
  have hle := tailD_le r (r.length - 1)
  have hd0 := tailD_down r (r.length - 1)
  generalize tailD r (r.length - 1) = s at *
  have hd : (r.drop s).Pairwise (· ≥ ·) := drop_pair fun a b h1 h2 h3 => by
    have := hd0 a b (by omega) h2 (by omega)
    show r.getD a 0 ≥ r.getD b 0
    omega
  have e0 : r.drop (s - 1) = r.getD (s - 1) 0 :: r.drop s := by
    rw [List.drop_eq_getElem_cons (by omega : s - 1 < r.length), getD_at (by omega), show s - 1 + 1 = s by omega]
  have e : r = r.take (s - 1) ++ r.getD (s - 1) 0 :: r.drop s := by
    rw [← e0, List.take_append_drop]
  have hn2 : (r.take (s - 1) ++ r.getD (s - 1) 0 :: r.drop s).Nodup := e ▸ hn
  unfold nextR
  rw [e0]
  have p1 := nxt_perm hn2 hv
  refine ⟨?_, ?_, fun t ht h1 => ?_⟩
  · exact p1.trans (by rw [← e])
  · have := nxt_lt (r.take (s - 1)) (d := r.drop s) (t := srt ((r.getD (s - 1) 0 :: r.drop s).filter fun y => !decide (y = v))) hg
    rwa [← e] at this
  · exact nxt_succ hn2 hd hv hg hm (by rw [← e]; exact ht) (by rw [← e]; exact h1)
/-- there is a value to go on with -/
theorem next_ex {r : List Int} (hn : r.Nodup) (h : tailD r (r.length - 1) ≠ 0) : ∃ v, v ∈ r.drop (tailD r (r.length - 1)) ∧ r.getD (tailD r (r.length - 1) - 1) 0 < v := by
  have hle := tailD_le r (r.length - 1)
  have ht := tailD_top r (r.length - 1) h
  generalize tailD r (r.length - 1) = s at *
  refine ⟨r.getD s 0, ?_, ?_⟩
  · rw [List.drop_eq_getElem_cons (by omega : s < r.length), getD_at (by omega)]
    exact List.mem_cons_self
  · have hp := List.pairwise_iff_getElem.mp hn (s - 1) s (by omega) (by omega) (by omega)
    rw [getD_at (by omega), getD_at (by omega)] at hp
    omega
/-! ### the list of all -/
theorem asc_lt (n : Nat) : (ascN n).Pairwise (· < ·) := by
  unfold ascN
  rw [List.pairwise_map, List.pairwise_iff_getElem]
  intro i j hi hj hij
  simp only [List.getElem_range]
  omega
theorem arrM_up (n : Nat) : ∀ k, (arrM n k).Pairwise lx
  | 0 => List.pairwise_singleton _ _
  | k + 1 => by
    show ((arrM n k).flatMap _).Pairwise lx
    have hl : ∀ c ∈ arrM n k, c.length = k := fun c hc => (arr_mem hc).1
    have ih := arrM_up n k
    generalize arrM n k = L at *
    rw [List.pairwise_flatMap]
    refine ⟨fun c hc => ?_, ?_⟩
    · rw [List.pairwise_map]
      refine List.Pairwise.imp ?_ ((asc_lt n).filter _)
      intro a b h
      exact lx_app c (.inl h)
    · refine List.Pairwise.imp_of_mem ?_ ih
      intro c c' hc hc' h x hx y hy
      obtain ⟨v, _, rfl⟩ := List.mem_map.mp hx
      obtain ⟨w, _, rfl⟩ := List.mem_map.mp hy
      exact lx_ext _ _ (by rw [hl c hc, hl c' hc']) h
theorem arr_in {n : Nat} {l : List Int} (h : l.Perm (ascN n)) : l ∈ arrM n n := by
  refine arr_all (by rw [h.length_eq]; simp [ascN]) ?_ fun v hv => h.mem_iff.mp hv
  rw [h.nodup_iff]
  exact (arr_asc (List.Perm.refl _)).1
theorem arr_nodup {n : Nat} {l : List Int} (h : l.Perm (ascN n)) : l.Nodup := by
  rw [h.nodup_iff]
  exact (arr_asc (List.Perm.refl _)).1
theorem lx_at {n i j : Nat} {a b : List Int} (ha : (arrM n n)[i]? = some a) (hb : (arrM n n)[j]? = some b) (h : i < j) : lx a b := by
  have := List.pairwise_iff_getElem.mp (arrM_up n n) i j
  obtain ⟨h1, rfl⟩ := List.getElem?_eq_some_iff.mp ha
  obtain ⟨h2, rfl⟩ := List.getElem?_eq_some_iff.mp hb
  exact this h1 h2 h
theorem lx_lt {n i j : Nat} {a b : List Int} (ha : (arrM n n)[i]? = some a) (hb : (arrM n n)[j]? = some b) (h : lx a b) : i < j := by
  rcases Nat.lt_trichotomy i j with z | z | z
  · exact z
  · subst z; rw [ha] at hb; cases hb; exact absurd h lx_irr
  · exact absurd (lx_trans h (lx_at hb ha z)) lx_irr
theorem next_is {n i : Nat} {r : List Int} {o : Option (List Int)} (h : (arrM n n)[i]? = some r) (g : IsNext r o) : o = (arrM n n)[i + 1]? := by
  have hr := arrm_perm (List.mem_of_getElem? h)
  cases o with
  | none =>
    cases e : (arrM n n)[i + 1]? with
    | none => rfl
    | some s => exact absurd (lx_at h e (Nat.lt_succ_self _)) (g s ((arrm_perm (List.mem_of_getElem? e)).trans hr.symm))
  | some r' =>
    obtain ⟨g1, g2, g3⟩ := g
    obtain ⟨j, ej⟩ := List.getElem?_of_mem (arr_in (g1.trans hr))
    have hij := lx_lt h ej g2
    rcases Nat.lt_or_eq_of_le (Nat.succ_le_of_lt hij) with z | z
    · have hs : i + 1 < (arrM n n).length := Nat.lt_trans z (List.getElem?_eq_some_iff.mp ej).1
      have es := List.getElem?_eq_getElem hs
      exact absurd (lx_at es ej z) (g3 _ ((arrm_perm (List.getElem_mem hs)).trans hr.symm) (lx_at h es (Nat.lt_succ_self _)))
    · rw [← ej, ← z]
theorem arr_first {n : Nat} : (arrM n n)[0]? = some (ascN n) := by
  obtain ⟨j, ej⟩ := List.getElem?_of_mem (arr_in (List.Perm.refl (ascN n)))
  cases j with
  | zero => exact ej
  | succ j =>
    have h0 : 0 < (arrM n n).length := Nat.lt_of_le_of_lt (Nat.zero_le _) (List.getElem?_eq_some_iff.mp ej).1
    have es := List.getElem?_eq_getElem h0
    exact absurd (lx_at es ej (Nat.succ_pos _)) (up_least (asc_up n) (arrm_perm (List.getElem_mem h0)))
/-- what a script makes, ascending -/
def resM (n : Nat) (cs : List Cmd) : List (List Int) := (arrM n n).filter fun r => decide (runM (backM cs r) cs = r)
/-- how many of them are among the first i arrangements -/
def resN (n : Nat) (cs : List Cmd) (i : Nat) : Nat := (((arrM n n).take i).filter fun r => decide (runM (backM cs r) cs = r)).length
theorem resN_skip {n i : Nat} {cs : List Cmd} {r : List Int} (h : (arrM n n)[i]? = some r) (g : ¬ runM (backM cs r) cs = r) : resN n cs (i + 1) = resN n cs i := by
  unfold resN
  rw [List.take_succ, h, List.filter_append]
  simp [g]
theorem resN_take {n i : Nat} {cs : List Cmd} {r : List Int} (h : (arrM n n)[i]? = some r) (g : runM (backM cs r) cs = r) : resN n cs (i + 1) = resN n cs i + 1 ∧ (resM n cs)[resN n cs i]? = some r := by
  unfold resN resM
  refine ⟨?_, ?_⟩
  · rw [List.take_succ, h, List.filter_append]
    simp [g]
  · obtain ⟨hi, rfl⟩ := List.getElem?_eq_some_iff.mp h
    conv => lhs; rw [← List.take_append_drop i (arrM n n), List.filter_append, List.getElem?_append_right (by simp)]
    rw [List.drop_eq_getElem_cons hi, List.filter_cons_of_pos (by simpa using g)]
    simp
theorem resN_end {n i : Nat} {cs : List Cmd} (h : (arrM n n)[i]? = none) : resN n cs i = (resM n cs).length := by
  unfold resN resM
  rw [List.take_of_length_le (List.getElem?_eq_none_iff.mp h)]
theorem resN_le (n : Nat) (cs : List Cmd) (i : Nat) : resN n cs i ≤ (resM n cs).length := by
  unfold resN resM
  exact ((List.take_sublist i _).filter _).length_le
theorem made_iff {n : Nat} {cs : List Cmd} {r : List Int} (hr : r.Perm (ascN n)) (hf : Fits n cs) : runM (backM cs r) cs = r ↔ ∃ l, l.Perm (ascN n) ∧ runM l cs = r :=
  ⟨fun h => ⟨_, back_perm_n hr hf, h⟩, fun ⟨l, hl, e⟩ => by rw [← e]; exact made_back hl hf⟩
theorem made_trim {n : Nat} {cs : List Cmd} {r : List Int} (hn : 1 ≤ n) (hr : r.Perm (ascN n)) (hf : Fits n cs) : runM (backM (trimR (desc n) cs) r) (trimR (desc n) cs) = r ↔ runM (backM cs r) cs = r := by
  obtain ⟨e, g⟩ := trim_eff hf
  rw [made_iff hr hf, made_iff hr g]
  have : ∀ l : List Int, l.Perm (ascN n) → runM l (trimR (desc n) cs) = runM l cs := fun l hl => run_same hn g hf e (perm_len hl)
  exact ⟨fun ⟨l, hl, z⟩ => ⟨l, hl, by rw [← this l hl]; exact z⟩, fun ⟨l, hl, z⟩ => ⟨l, hl, by rw [this l hl]; exact z⟩⟩
end My
namespace L41
open PySem PySem.Spec PyProof.Rows L2 Xk
def topS (i : Nat) : Stmt := PySem.Challenge.pw_sortstretches_k41_counting_errors.main.body.getD i (.Pass ⟨0, 0, 0, 0⟩)
abbrev s_check_size : Stmt := topS 10
theorem sc_check_size : FnScope ["size"] ["size"] (defScope s_check_size) := ⟨rfl, rfl, rfl, by decide +kernel, rfl, by decide +kernel, by decide +kernel⟩
abbrev s_check_script : Stmt := topS 11
theorem sc_check_script : FnScope ["size", "commands", "index", "first", "last"] ["size", "commands"] (defScope s_check_script) := ⟨rfl, rfl, rfl, by decide +kernel, rfl, by decide +kernel, by decide +kernel⟩
abbrev s_check_sized_script : Stmt := topS 12
theorem sc_check_sized_script : FnScope ["size", "commands"] ["size", "commands"] (defScope s_check_sized_script) := ⟨rfl, rfl, rfl, by decide +kernel, rfl, by decide +kernel, by decide +kernel⟩
abbrev s_check_arrangement : Stmt := topS 13
theorem sc_check_arrangement : FnScope ["row", "seen", "index", "value"] ["row"] (defScope s_check_arrangement) := ⟨rfl, rfl, rfl, by decide +kernel, rfl, by decide +kernel, by decide +kernel⟩
abbrev s_sort_stretches : Stmt := topS 15
theorem sc_sort_stretches : FnScope ["row", "commands", "present", "first", "last"] ["row", "commands"] (defScope s_sort_stretches) := ⟨rfl, rfl, rfl, by decide +kernel, rfl, by decide +kernel, by decide +kernel⟩
abbrev s_stages : Stmt := topS 16
theorem sc_stages : GScope ["row", "commands", "present", "first", "last"] ["row", "commands"] (defScope s_stages) := ⟨rfl, rfl, rfl, by decide +kernel, rfl, by decide +kernel, by decide +kernel⟩
abbrev s_greatest_row : Stmt := topS 18
theorem sc_greatest_row : FnScope ["size", "commands"] ["size", "commands"] (defScope s_greatest_row) := ⟨rfl, rfl, rfl, by decide +kernel, rfl, by decide +kernel, by decide +kernel⟩
abbrev s_greatest_before : Stmt := topS 19
theorem sc_greatest_before : FnScope ["commands", "row", "present", "first", "last"] ["commands", "row"] (defScope s_greatest_before) := ⟨rfl, rfl, rfl, by decide +kernel, rfl, by decide +kernel, by decide +kernel⟩
abbrev s_is_result : Stmt := topS 20
theorem sc_is_result : FnScope ["row", "commands", "before"] ["row", "commands"] (defScope s_is_result) := ⟨rfl, rfl, rfl, by decide +kernel, rfl, by decide +kernel, by decide +kernel⟩
abbrev s_descending_row : Stmt := topS 22
theorem sc_descending_row : FnScope ["size"] ["size"] (defScope s_descending_row) := ⟨rfl, rfl, rfl, by decide +kernel, rfl, by decide +kernel, by decide +kernel⟩
abbrev s_changes : Stmt := topS 24
theorem sc_changes : FnScope ["size", "commands", "start", "rows"] ["size", "commands"] (defScope s_changes) := ⟨rfl, rfl, rfl, by decide +kernel, rfl, by decide +kernel, by decide +kernel⟩
abbrev s_changed_stretch : Stmt := topS 25
theorem sc_changed_stretch : FnScope ["before", "after", "places", "place", "old", "new"] ["before", "after"] (defScope s_changed_stretch) := ⟨rfl, rfl, rfl, by decide +kernel, rfl, by decide +kernel, by decide +kernel⟩
abbrev s_trimmed : Stmt := topS 26
theorem sc_trimmed : FnScope ["size", "commands", "before", "after"] ["size", "commands"] (defScope s_trimmed) := ⟨rfl, rfl, rfl, by decide +kernel, rfl, by decide +kernel, by decide +kernel⟩
abbrev s_needed_zeros : Stmt := topS 28
theorem sc_needed_zeros : FnScope ["size", "commands", "zeros", "before", "needed", "value"] ["size", "commands", "zeros"] (defScope s_needed_zeros) := ⟨rfl, rfl, rfl, by decide +kernel, rfl, by decide +kernel, by decide +kernel⟩
abbrev s_ways_to_go_on : Stmt := topS 29
theorem sc_ways_to_go_on : FnScope ["needed", "zeros", "ways", "least", "further", "here", "found"] ["needed"] (defScope s_ways_to_go_on) := ⟨rfl, rfl, rfl, by decide +kernel, rfl, by decide +kernel, by decide +kernel⟩
abbrev s_count_sorted_bits : Stmt := topS 30
theorem sc_count_sorted_bits : FnScope ["size", "commands", "zeros", "ways"] ["size", "commands", "zeros"] (defScope s_count_sorted_bits) := ⟨rfl, rfl, rfl, by decide +kernel, rfl, by decide +kernel, by decide +kernel⟩
abbrev s_nth_sorted_bits : Stmt := topS 31
theorem sc_nth_sorted_bits : FnScope ["size", "commands", "zeros", "number", "ways", "row", "found", "left", "further", "with_zero"] ["size", "commands", "zeros", "number"] (defScope s_nth_sorted_bits) := ⟨rfl, rfl, rfl, by decide +kernel, rfl, by decide +kernel, by decide +kernel⟩
abbrev s_longer_beginnings : Stmt := topS 32
theorem sc_longer_beginnings : FnScope ["many", "limits", "longer", "held", "ways", "value", "values", "mine", "limit"] ["many", "limits"] (defScope s_longer_beginnings) := ⟨rfl, rfl, rfl, by decide +kernel, rfl, by decide +kernel, by decide +kernel⟩
abbrev s_count_sorted : Stmt := topS 33
theorem sc_count_sorted : FnScope ["size", "commands", "before", "many", "place"] ["size", "commands"] (defScope s_count_sorted) := ⟨rfl, rfl, rfl, by decide +kernel, rfl, by decide +kernel, by decide +kernel⟩
abbrev s_next_arrangement : Stmt := topS 34
theorem sc_next_arrangement : FnScope ["row", "start", "old", "new", "rest", "value"] ["row"] (defScope s_next_arrangement) := ⟨rfl, rfl, rfl, by decide +kernel, rfl, by decide +kernel, by decide +kernel⟩
abbrev s_results : Stmt := topS 35
theorem sc_results : GScope ["size", "commands", "short", "row", "further"] ["size", "commands"] (defScope s_results) := ⟨rfl, rfl, rfl, by decide +kernel, rfl, by decide +kernel, by decide +kernel⟩
abbrev s_law_bag : Stmt := topS 37
theorem sc_law_bag : FnScope ["script", "blend", "great", "cell"] ["script"] (defScope s_law_bag) := ⟨rfl, rfl, rfl, by decide +kernel, rfl, by decide +kernel, by decide +kernel⟩
abbrev s_law_draw : Stmt := topS 38
theorem sc_law_draw : FnScope ["bag", "many", "drawn", "turn", "mixed"] ["bag", "many"] (defScope s_law_draw) := ⟨rfl, rfl, rfl, by decide +kernel, rfl, by decide +kernel, by decide +kernel⟩
abbrev s_law_commands : Stmt := topS 39
theorem sc_law_commands : FnScope ["bag", "many", "most", "found", "turn", "begin", "width"] ["bag", "many", "most"] (defScope s_law_commands) := ⟨rfl, rfl, rfl, by decide +kernel, rfl, by decide +kernel, by decide +kernel⟩
abbrev s_law_kind : Stmt := topS 47
theorem sc_law_kind : FnScope ["e", "flags", "others"] ["e"] (defScope s_law_kind) := ⟨rfl, rfl, rfl, by decide +kernel, rfl, by decide +kernel, by decide +kernel⟩
abbrev s_law_caught : Stmt := topS 48
theorem sc_law_caught : FnScope ["which", "many", "moves", "nought", "spot", "rows", "cells", "e"] ["which", "many", "moves", "nought", "spot"] (defScope s_law_caught) := ⟨rfl, rfl, rfl, by decide +kernel, rfl, by decide +kernel, by decide +kernel⟩
abbrev s_law : Stmt := topS 49
theorem sc_law : FnScope ["script", "bag", "turn", "many", "moves", "spot", "bad", "nought", "number_now", "which", "due"] ["script"] (defScope s_law) := ⟨rfl, rfl, rfl, by decide +kernel, rfl, by decide +kernel, by decide +kernel⟩
abbrev s_InvalidCommand_i : Stmt := inClass (topS 3) 0
abbrev s_InvalidNumber_i : Stmt := inClass (topS 5) 0
abbrev s_InvalidRow_i : Stmt := inClass (topS 4) 0
abbrev s_InvalidSize_i : Stmt := inClass (topS 2) 0
theorem sc_InvalidCommand_i : FnScope ["self", "value"] ["self", "value"] (defScope s_InvalidCommand_i) := ⟨rfl, rfl, rfl, by decide +kernel, rfl, by decide +kernel, by decide +kernel⟩
theorem sc_InvalidNumber_i : FnScope ["self", "value"] ["self", "value"] (defScope s_InvalidNumber_i) := ⟨rfl, rfl, rfl, by decide +kernel, rfl, by decide +kernel, by decide +kernel⟩
theorem sc_InvalidRow_i : FnScope ["self", "value"] ["self", "value"] (defScope s_InvalidRow_i) := ⟨rfl, rfl, rfl, by decide +kernel, rfl, by decide +kernel, by decide +kernel⟩
theorem sc_InvalidSize_i : FnScope ["self", "value"] ["self", "value"] (defScope s_InvalidSize_i) := ⟨rfl, rfl, rfl, by decide +kernel, rfl, by decide +kernel, by decide +kernel⟩
structure Txt (K : PySem.W.Frag) (mg : Str → Option Value) where
  InvalidCommand_a : Addr
  InvalidCommand_g : mg "InvalidCommand" = some (.ref InvalidCommand_a)
  InvalidNumber_a : Addr
  InvalidNumber_g : mg "InvalidNumber" = some (.ref InvalidNumber_a)
  InvalidRow_a : Addr
  InvalidRow_g : mg "InvalidRow" = some (.ref InvalidRow_a)
  InvalidSize_a : Addr
  InvalidSize_g : mg "InvalidSize" = some (.ref InvalidSize_a)
  NothingToUndo_a : Addr
  NothingToUndo_g : mg "NothingToUndo" = some (.ref NothingToUndo_a)
  SortError_a : Addr
  SortError_g : mg "SortError" = some (.ref SortError_a)
  UnequalSizes_a : Addr
  UnequalSizes_g : mg "UnequalSizes" = some (.ref UnequalSizes_a)
  Unreadable_a : Addr
  Unreadable_g : mg "Unreadable" = some (.ref Unreadable_a)
  InvalidCommand_i_a : Addr
  InvalidCommand_i_d : FuncData
  InvalidCommand_i_F : Fun K "__init__" "InvalidCommand.__init__" s_InvalidCommand_i InvalidCommand_i_a InvalidCommand_i_d
  InvalidCommand_i_b : Binds K InvalidCommand_i_d ["self", "value"] []
  InvalidCommand_X : ExcC K InvalidCommand_a
  InvalidCommand_is_InvalidCommand : PySem.W.kitOne K (.ref InvalidCommand_a) (.ref InvalidCommand_a) = some true
  InvalidCommand_is_InvalidNumber : PySem.W.kitOne K (.ref InvalidCommand_a) (.ref InvalidNumber_a) = some false
  InvalidCommand_is_InvalidRow : PySem.W.kitOne K (.ref InvalidCommand_a) (.ref InvalidRow_a) = some false
  InvalidCommand_is_InvalidSize : PySem.W.kitOne K (.ref InvalidCommand_a) (.ref InvalidSize_a) = some false
  InvalidCommand_is_NothingToUndo : PySem.W.kitOne K (.ref InvalidCommand_a) (.ref NothingToUndo_a) = some false
  InvalidCommand_is_UnequalSizes : PySem.W.kitOne K (.ref InvalidCommand_a) (.ref UnequalSizes_a) = some false
  InvalidCommand_is_Unreadable : PySem.W.kitOne K (.ref InvalidCommand_a) (.ref Unreadable_a) = some false
  InvalidCommand_is_ValueError : PySem.W.kitOne K (.ref InvalidCommand_a) (.type "ValueError") = some true
  InvalidCommand_E : ErrC K mg "InvalidCommand" SortError_a InvalidCommand_a InvalidCommand_i_a
  InvalidCommand_st : NoSt K (.ref InvalidCommand_a)
  InvalidNumber_i_a : Addr
  InvalidNumber_i_d : FuncData
  InvalidNumber_i_F : Fun K "__init__" "InvalidNumber.__init__" s_InvalidNumber_i InvalidNumber_i_a InvalidNumber_i_d
  InvalidNumber_i_b : Binds K InvalidNumber_i_d ["self", "value"] []
  InvalidNumber_X : ExcC K InvalidNumber_a
  InvalidNumber_is_InvalidCommand : PySem.W.kitOne K (.ref InvalidNumber_a) (.ref InvalidCommand_a) = some false
  InvalidNumber_is_InvalidNumber : PySem.W.kitOne K (.ref InvalidNumber_a) (.ref InvalidNumber_a) = some true
  InvalidNumber_is_InvalidRow : PySem.W.kitOne K (.ref InvalidNumber_a) (.ref InvalidRow_a) = some false
  InvalidNumber_is_InvalidSize : PySem.W.kitOne K (.ref InvalidNumber_a) (.ref InvalidSize_a) = some false
  InvalidNumber_is_NothingToUndo : PySem.W.kitOne K (.ref InvalidNumber_a) (.ref NothingToUndo_a) = some false
  InvalidNumber_is_UnequalSizes : PySem.W.kitOne K (.ref InvalidNumber_a) (.ref UnequalSizes_a) = some false
  InvalidNumber_is_Unreadable : PySem.W.kitOne K (.ref InvalidNumber_a) (.ref Unreadable_a) = some false
  InvalidNumber_is_ValueError : PySem.W.kitOne K (.ref InvalidNumber_a) (.type "ValueError") = some true
  InvalidNumber_E : ErrC K mg "InvalidNumber" SortError_a InvalidNumber_a InvalidNumber_i_a
  InvalidNumber_st : NoSt K (.ref InvalidNumber_a)
  InvalidRow_i_a : Addr
  InvalidRow_i_d : FuncData
  InvalidRow_i_F : Fun K "__init__" "InvalidRow.__init__" s_InvalidRow_i InvalidRow_i_a InvalidRow_i_d
  InvalidRow_i_b : Binds K InvalidRow_i_d ["self", "value"] []
  InvalidRow_X : ExcC K InvalidRow_a
  InvalidRow_is_InvalidCommand : PySem.W.kitOne K (.ref InvalidRow_a) (.ref InvalidCommand_a) = some false
  InvalidRow_is_InvalidNumber : PySem.W.kitOne K (.ref InvalidRow_a) (.ref InvalidNumber_a) = some false
  InvalidRow_is_InvalidRow : PySem.W.kitOne K (.ref InvalidRow_a) (.ref InvalidRow_a) = some true
  InvalidRow_is_InvalidSize : PySem.W.kitOne K (.ref InvalidRow_a) (.ref InvalidSize_a) = some false
  InvalidRow_is_NothingToUndo : PySem.W.kitOne K (.ref InvalidRow_a) (.ref NothingToUndo_a) = some false
  InvalidRow_is_UnequalSizes : PySem.W.kitOne K (.ref InvalidRow_a) (.ref UnequalSizes_a) = some false
  InvalidRow_is_Unreadable : PySem.W.kitOne K (.ref InvalidRow_a) (.ref Unreadable_a) = some false
  InvalidRow_is_ValueError : PySem.W.kitOne K (.ref InvalidRow_a) (.type "ValueError") = some true
  InvalidRow_E : ErrC K mg "InvalidRow" SortError_a InvalidRow_a InvalidRow_i_a
  InvalidRow_st : NoSt K (.ref InvalidRow_a)
  InvalidSize_i_a : Addr
  InvalidSize_i_d : FuncData
  InvalidSize_i_F : Fun K "__init__" "InvalidSize.__init__" s_InvalidSize_i InvalidSize_i_a InvalidSize_i_d
  InvalidSize_i_b : Binds K InvalidSize_i_d ["self", "value"] []
  InvalidSize_X : ExcC K InvalidSize_a
  InvalidSize_is_InvalidCommand : PySem.W.kitOne K (.ref InvalidSize_a) (.ref InvalidCommand_a) = some false
  InvalidSize_is_InvalidNumber : PySem.W.kitOne K (.ref InvalidSize_a) (.ref InvalidNumber_a) = some false
  InvalidSize_is_InvalidRow : PySem.W.kitOne K (.ref InvalidSize_a) (.ref InvalidRow_a) = some false
  InvalidSize_is_InvalidSize : PySem.W.kitOne K (.ref InvalidSize_a) (.ref InvalidSize_a) = some true
  InvalidSize_is_NothingToUndo : PySem.W.kitOne K (.ref InvalidSize_a) (.ref NothingToUndo_a) = some false
  InvalidSize_is_UnequalSizes : PySem.W.kitOne K (.ref InvalidSize_a) (.ref UnequalSizes_a) = some false
  InvalidSize_is_Unreadable : PySem.W.kitOne K (.ref InvalidSize_a) (.ref Unreadable_a) = some false
  InvalidSize_is_ValueError : PySem.W.kitOne K (.ref InvalidSize_a) (.type "ValueError") = some true
  InvalidSize_E : ErrC K mg "InvalidSize" SortError_a InvalidSize_a InvalidSize_i_a
  InvalidSize_st : NoSt K (.ref InvalidSize_a)
  check_size_a : Addr
  check_size_d : FuncData
  check_size_F : Fun K "check_size" "check_size" s_check_size check_size_a check_size_d
  check_size_b : Binds K check_size_d ["size"] []
  check_size_g : mg "check_size" = some (.ref check_size_a)
  check_script_a : Addr
  check_script_d : FuncData
  check_script_F : Fun K "check_script" "check_script" s_check_script check_script_a check_script_d
  check_script_b : Binds K check_script_d ["size", "commands"] []
  check_script_g : mg "check_script" = some (.ref check_script_a)
  check_sized_script_a : Addr
  check_sized_script_d : FuncData
  check_sized_script_F : Fun K "check_sized_script" "check_sized_script" s_check_sized_script check_sized_script_a check_sized_script_d
  check_sized_script_b : Binds K check_sized_script_d ["size", "commands"] []
  check_sized_script_g : mg "check_sized_script" = some (.ref check_sized_script_a)
  check_arrangement_a : Addr
  check_arrangement_d : FuncData
  check_arrangement_F : Fun K "check_arrangement" "check_arrangement" s_check_arrangement check_arrangement_a check_arrangement_d
  check_arrangement_b : Binds K check_arrangement_d ["row"] []
  check_arrangement_g : mg "check_arrangement" = some (.ref check_arrangement_a)
  sort_stretches_a : Addr
  sort_stretches_d : FuncData
  sort_stretches_F : Fun K "sort_stretches" "sort_stretches" s_sort_stretches sort_stretches_a sort_stretches_d
  sort_stretches_b : Binds K sort_stretches_d ["row", "commands"] []
  sort_stretches_g : mg "sort_stretches" = some (.ref sort_stretches_a)
  stages_a : Addr
  stages_d : FuncData
  stages_F : Fun K "stages" "stages" s_stages stages_a stages_d
  stages_b : Binds K stages_d ["row", "commands"] []
  stages_g : mg "stages" = some (.ref stages_a)
  greatest_row_a : Addr
  greatest_row_d : FuncData
  greatest_row_F : Fun K "greatest_row" "greatest_row" s_greatest_row greatest_row_a greatest_row_d
  greatest_row_b : Binds K greatest_row_d ["size", "commands"] []
  greatest_row_g : mg "greatest_row" = some (.ref greatest_row_a)
  greatest_before_a : Addr
  greatest_before_d : FuncData
  greatest_before_F : Fun K "greatest_before" "greatest_before" s_greatest_before greatest_before_a greatest_before_d
  greatest_before_b : Binds K greatest_before_d ["commands", "row"] []
  greatest_before_g : mg "greatest_before" = some (.ref greatest_before_a)
  is_result_a : Addr
  is_result_d : FuncData
  is_result_F : Fun K "is_result" "is_result" s_is_result is_result_a is_result_d
  is_result_b : Binds K is_result_d ["row", "commands"] []
  is_result_g : mg "is_result" = some (.ref is_result_a)
  descending_row_a : Addr
  descending_row_d : FuncData
  descending_row_F : Fun K "descending_row" "descending_row" s_descending_row descending_row_a descending_row_d
  descending_row_b : Binds K descending_row_d ["size"] []
  descending_row_g : mg "descending_row" = some (.ref descending_row_a)
  changes_a : Addr
  changes_d : FuncData
  changes_F : Fun K "changes" "changes" s_changes changes_a changes_d
  changes_b : Binds K changes_d ["size", "commands"] []
  changes_g : mg "changes" = some (.ref changes_a)
  changed_stretch_a : Addr
  changed_stretch_d : FuncData
  changed_stretch_F : Fun K "changed_stretch" "changed_stretch" s_changed_stretch changed_stretch_a changed_stretch_d
  changed_stretch_b : Binds K changed_stretch_d ["before", "after"] []
  changed_stretch_g : mg "changed_stretch" = some (.ref changed_stretch_a)
  trimmed_a : Addr
  trimmed_d : FuncData
  trimmed_F : Fun K "trimmed" "trimmed" s_trimmed trimmed_a trimmed_d
  trimmed_b : Binds K trimmed_d ["size", "commands"] []
  trimmed_g : mg "trimmed" = some (.ref trimmed_a)
  needed_zeros_a : Addr
  needed_zeros_d : FuncData
  needed_zeros_F : Fun K "needed_zeros" "needed_zeros" s_needed_zeros needed_zeros_a needed_zeros_d
  needed_zeros_b : Binds K needed_zeros_d ["size", "commands", "zeros"] []
  needed_zeros_g : mg "needed_zeros" = some (.ref needed_zeros_a)
  ways_to_go_on_a : Addr
  ways_to_go_on_d : FuncData
  ways_to_go_on_F : Fun K "ways_to_go_on" "ways_to_go_on" s_ways_to_go_on ways_to_go_on_a ways_to_go_on_d
  ways_to_go_on_b : Binds K ways_to_go_on_d ["needed"] []
  ways_to_go_on_g : mg "ways_to_go_on" = some (.ref ways_to_go_on_a)
  count_sorted_bits_a : Addr
  count_sorted_bits_d : FuncData
  count_sorted_bits_F : Fun K "count_sorted_bits" "count_sorted_bits" s_count_sorted_bits count_sorted_bits_a count_sorted_bits_d
  count_sorted_bits_b : Binds K count_sorted_bits_d ["size", "commands", "zeros"] []
  count_sorted_bits_g : mg "count_sorted_bits" = some (.ref count_sorted_bits_a)
  nth_sorted_bits_a : Addr
  nth_sorted_bits_d : FuncData
  nth_sorted_bits_F : Fun K "nth_sorted_bits" "nth_sorted_bits" s_nth_sorted_bits nth_sorted_bits_a nth_sorted_bits_d
  nth_sorted_bits_b : Binds K nth_sorted_bits_d ["size", "commands", "zeros", "number"] []
  nth_sorted_bits_g : mg "nth_sorted_bits" = some (.ref nth_sorted_bits_a)
  longer_beginnings_a : Addr
  longer_beginnings_d : FuncData
  longer_beginnings_F : Fun K "longer_beginnings" "longer_beginnings" s_longer_beginnings longer_beginnings_a longer_beginnings_d
  longer_beginnings_b : Binds K longer_beginnings_d ["many", "limits"] []
  longer_beginnings_g : mg "longer_beginnings" = some (.ref longer_beginnings_a)
  count_sorted_a : Addr
  count_sorted_d : FuncData
  count_sorted_F : Fun K "count_sorted" "count_sorted" s_count_sorted count_sorted_a count_sorted_d
  count_sorted_b : Binds K count_sorted_d ["size", "commands"] []
  count_sorted_g : mg "count_sorted" = some (.ref count_sorted_a)
  next_arrangement_a : Addr
  next_arrangement_d : FuncData
  next_arrangement_F : Fun K "next_arrangement" "next_arrangement" s_next_arrangement next_arrangement_a next_arrangement_d
  next_arrangement_b : Binds K next_arrangement_d ["row"] []
  next_arrangement_g : mg "next_arrangement" = some (.ref next_arrangement_a)
  results_a : Addr
  results_d : FuncData
  results_F : Fun K "results" "results" s_results results_a results_d
  results_b : Binds K results_d ["size", "commands"] []
  results_g : mg "results" = some (.ref results_a)
  law_bag_a : Addr
  law_bag_d : FuncData
  law_bag_F : Fun K "_law_bag" "_law_bag" s_law_bag law_bag_a law_bag_d
  law_bag_b : Binds K law_bag_d ["script"] []
  law_bag_g : mg "_law_bag" = some (.ref law_bag_a)
  law_draw_a : Addr
  law_draw_d : FuncData
  law_draw_F : Fun K "_law_draw" "_law_draw" s_law_draw law_draw_a law_draw_d
  law_draw_b : Binds K law_draw_d ["bag", "many"] []
  law_draw_g : mg "_law_draw" = some (.ref law_draw_a)
  law_commands_a : Addr
  law_commands_d : FuncData
  law_commands_F : Fun K "_law_commands" "_law_commands" s_law_commands law_commands_a law_commands_d
  law_commands_b : Binds K law_commands_d ["bag", "many", "most"] []
  law_commands_g : mg "_law_commands" = some (.ref law_commands_a)
  law_kind_a : Addr
  law_kind_d : FuncData
  law_kind_F : Fun K "_law_kind" "_law_kind" s_law_kind law_kind_a law_kind_d
  law_kind_b : Binds K law_kind_d ["e"] []
  law_kind_g : mg "_law_kind" = some (.ref law_kind_a)
  law_caught_a : Addr
  law_caught_d : FuncData
  law_caught_F : Fun K "_law_caught" "_law_caught" s_law_caught law_caught_a law_caught_d
  law_caught_b : Binds K law_caught_d ["which", "many", "moves", "nought", "spot"] []
  law_caught_g : mg "_law_caught" = some (.ref law_caught_a)
  law_a : Addr
  law_d : FuncData
  law_F : Fun K "law" "law" s_law law_a law_d
  law_b : Binds K law_d ["script"] []
  law_g : mg "law" = some (.ref law_a)
  m_ValueError : mg "ValueError" = none
  m_abs : mg "abs" = none
  m_all : mg "all" = none
  m_enumerate : mg "enumerate" = none
  m_isinstance : mg "isinstance" = none
  m_len : mg "len" = none
  m_list : mg "list" = none
  m_max : mg "max" = none
  m_min : mg "min" = none
  m_range : mg "range" = none
  m_reversed : mg "reversed" = none
  m_set : mg "set" = none
  m_sorted : mg "sorted" = none
  m_tuple : mg "tuple" = none
  m_zip : mg "zip" = none
section
variable {P : Program} {w : World} {K : PySem.W.Frag} {mg : Str → Option Value} {base : Heap}
open My
theorem r_dget {td ty : TE} {σ : L2.St} {H : Hp} {Q : VK} (q : td σ H fun x H1 => ty σ H1 fun y H2 => ∃ a v, x = .ref a ∧ DGet H2 a y (some v) ∧ Q v H2) : tDGet td ty σ H Q := q
theorem r_dput {td ty tv : TE} {D : _} {σ : L2.St} {H : Hp} (q : tv σ H fun v H1 => td σ H1 fun x H2 => ty σ H2 fun y H3 => ∃ a H4, x = .ref a ∧ DPut H3 a y v H4 ∧ D.nx σ H4) : sDPut td ty tv D σ H := q
theorem r_daug {td ty tv : TE} {rd : V → V → Hp → VK → Prop} {D : _} {σ : L2.St} {H : Hp} (q : td σ H fun x H1 => ty σ H1 fun y H2 => ∃ a v, x = .ref a ∧ DGet H2 a y (some v) ∧
  tv σ H2 fun y2 H3 => rd v y2 H3 fun z H4 => ∃ H5, DPut H4 a y z H5 ∧ D.nx σ H5) : sDAug td ty tv rd D σ H := q
theorem r_disp {trs : List (TE × TE)} {σ : L2.St} {H : Hp} {Q : VK} (q : ∀ p, H p = none → tPairs trs σ (upd H p (.dK [])) fun ps H2 => H2 p = some (.dK []) ∧ ∃ kvs : List (Key × V), ps = kvs.map (fun kv => (kV kv.1, kv.2)) ∧ kvs.length ≤ 15 ∧ Q (.ref p) (upd H2 p (.dK (mergeK [] kvs)))) : tDisp trs σ H Q := q
theorem r_pairs {tk tv : TE} {r : List (TE × TE)} {σ : L2.St} {H : Hp} {Q : List (V × V) → Hp → Prop} (q : tk σ H fun x H1 => tv σ H1 fun y H2 => tPairs r σ H2 fun ps H3 => Q ((x, y) :: ps) H3) : tPairs ((tk, tv) :: r) σ H Q := q
theorem r_pairs0 {σ : L2.St} {H : Hp} {Q : List (V × V) → Hp → Prop} (q : Q [] H) : tPairs [] σ H Q := q
abbrev kk (s : String) : Key := .inr (Str.ofString s)
/-- the drawer's dict -/
def bagK (g : Addr) (l t b : Int) : List (Key × V) := [(kk "great", .ref g), (kk "left", .int l), (kk "turn", .int t), (kk "blend", .int b)]
section
variable {H : Hp} {r g : Addr} {l t b : Int}
theorem get_great (h : H r = some (.dK (bagK g l t b))) : DGet H r (.str (Str.ofString "great")) (some (.ref g)) := DGet.k (k := kk "great") h
theorem get_left (h : H r = some (.dK (bagK g l t b))) : DGet H r (.str (Str.ofString "left")) (some (.int l)) := DGet.k (k := kk "left") h
theorem get_turn (h : H r = some (.dK (bagK g l t b))) : DGet H r (.str (Str.ofString "turn")) (some (.int t)) := DGet.k (k := kk "turn") h
theorem get_blend (h : H r = some (.dK (bagK g l t b))) : DGet H r (.str (Str.ofString "blend")) (some (.int b)) := DGet.k (k := kk "blend") h
theorem put_left (h : H r = some (.dK (bagK g l t b))) (x : Int) : DPut H r (.str (Str.ofString "left")) (.int x) (upd H r (.dK (bagK g x t b))) := DPut.k (k := kk "left") h (size_lt (by show 4 < _; decide))
theorem put_turn (h : H r = some (.dK (bagK g l t b))) (x : Int) : DPut H r (.str (Str.ofString "turn")) (.int x) (upd H r (.dK (bagK g l x b))) := DPut.k (k := kk "turn") h (size_lt (by show 4 < _; decide))
end
/-- all but r and g kept -/
def Sy (r g : Addr) (H H' : Hp) : Prop := ∀ b o, b ≠ r → b ≠ g → H b = some o → H' b = some o
def Bag (H : Hp) (r g : Addr) (m : Nat) : Prop := ∃ (gs : List Int) (l t b : Int), H r = some (.dK (bagK g l t b)) ∧ H g = some (.lst (gs.map V.int)) ∧ (∀ x ∈ gs, 0 ≤ x) ∧ gs.length ≤ 63 ∧ 0 ≤ l ∧ 0 ≤ t ∧ t ≤ m ∧ 0 ≤ b ∧ b < 2 ^ 61
theorem Sy.refl {r g : Addr} {H : Hp} : Sy r g H H := fun _ _ _ _ h => h
theorem Sy.trans {r g : Addr} {H H1 H2 : Hp} (s : Sy r g H H1) (t : Sy r g H1 H2) : Sy r g H H2 := fun b o h1 h2 h => t b o h1 h2 (s b o h1 h2 h)
theorem Sy.same {r g : Addr} {H H1 H2 : Hp} (s : Sy r g H H1) (t : Same H1 H2) : Sy r g H H2 := fun b o h1 h2 h => t b o (s b o h1 h2 h)
theorem Sy.putr {r g : Addr} {H H1 : Hp} {o : HO} (s : Sy r g H H1) : Sy r g H (upd H1 r o) := fun b u h1 h2 h => upd_to h1 (s b u h1 h2 h)
theorem Sy.putg {r g : Addr} {H H1 : Hp} {o : HO} (s : Sy r g H H1) : Sy r g H (upd H1 g o) := fun b u h1 h2 h => upd_to h2 (s b u h1 h2 h)
theorem Bag.same {r g : Addr} {H H' : Hp} {m : Nat} (h : Bag H r g m) (s : Same H H') : Bag H' r g m := by
  obtain ⟨gs, l, t, b, h1, h2, h3⟩ := h
  exact ⟨gs, l, t, b, s _ _ h1, s _ _ h2, h3⟩
theorem Sy.new {r g a : Addr} {H : Hp} {o : HO} (np : H a = none) : Sy r g H (upd H a o) := fun b u _ _ h => upd_old np h
theorem Sy.old {r g a : Addr} {H H0 : Hp} {o : HO} (s : Sy r g H0 H) (n : H0 a = none) : Sy r g H0 (upd H a o) := fun b u h1 h2 h => upd_to (ne_of_none h n) (s b u h1 h2 h)
theorem Bag.ner {H : Hp} {r g p : Addr} {m : Nat} (h : Bag H r g m) (n : H p = none) : p ≠ r ∧ p ≠ g := by
  obtain ⟨gs, l, t, b, h1, h2, _⟩ := h
  exact ⟨(ne_of_none h1 n).symm, (ne_of_none h2 n).symm⟩
theorem Bag.le {H : Hp} {r g : Addr} {m n : Nat} (h : Bag H r g m) (e : m ≤ n) : Bag H r g n := by
  obtain ⟨gs, l, t, b, h1, h2, h3, h4, h5, h6, h7, h8⟩ := h
  exact ⟨gs, l, t, b, h1, h2, h3, h4, h5, h6, by omega, h8⟩
theorem Bag.other {H : Hp} {r g p : Addr} {m : Nat} {o : HO} (h : Bag H r g m) (n : p ≠ r ∧ p ≠ g) : Bag (upd H p o) r g m := by
  obtain ⟨gs, l, t, b, h1, h2, h3⟩ := h
  exact ⟨gs, l, t, b, upd_to n.1.symm h1, upd_to n.2.symm h2, h3⟩
theorem Bag.free {H H' : Hp} {r g p : Addr} {m : Nat} (h : Bag H' r g m) (s : Sy r g H H') (n : H' p = none) : H p = none := by
  have e := h.ner n
  cases q : H p with
  | none => rfl
  | some o => rw [s p o e.1 e.2 q] at n; cases n
local macro_rules | `(tactic| fail "one") => `(tactic| with_reducible first | refine r_dget ?_ | refine r_dput ?_ | refine r_daug ?_ | refine r_disp ?_ | refine r_pairs ?_ | refine r_pairs0 ?_)
open My
/-- at ts stand the commands cs, as tuples -/
structure Cm (H : Hp) (ts : List Addr) (cs : List Cmd) : Prop where
  len : ts.length = cs.length
  at_ : ∀ (i : Nat) (t : Addr), ts[i]? = some t → ∃ c, cs[i]? = some c ∧ H t = some (.tup [.int (c.1 : Nat), .int (c.2 : Nat)])
theorem Cm.same {H H' : Hp} {ts : List Addr} {cs : List Cmd} (h : Cm H ts cs) (s : Same H H') : Cm H' ts cs :=
  ⟨h.len, fun i t e => let ⟨c, e1, e2⟩ := h.at_ i t e; ⟨c, e1, s _ _ e2⟩⟩
theorem Cm.put {H : Hp} {ts : List Addr} {cs : List Cmd} {p : Addr} {xs : List V} {o : HO} (h : Cm H ts cs) (hp : H p = some (.lst xs)) : Cm (upd H p o) ts cs :=
  ⟨h.len, fun i t e => let ⟨c, e1, e2⟩ := h.at_ i t e; ⟨c, e1, upd_to (ne_of e2 hp (by intro z; cases z)) e2⟩⟩
theorem Cm.nil {H : Hp} : Cm H [] [] := ⟨rfl, fun i t e => by simp at e⟩
theorem Cm.snoc {H : Hp} {ts : List Addr} {cs : List Cmd} {t : Addr} {c : Cmd} (h : Cm H ts cs) (e : H t = some (.tup [.int (c.1 : Nat), .int (c.2 : Nat)])) : Cm H (ts ++ [t]) (cs ++ [c]) := by
  refine ⟨by rw [List.length_append, List.length_append, h.len]; rfl, fun i t' e' => ?_⟩
  by_cases q : i < ts.length
  · rw [List.getElem?_append_left q] at e'
    obtain ⟨c', e1, e2⟩ := h.at_ i t' e'
    exact ⟨c', by rw [List.getElem?_append_left (h.len ▸ q)]; exact e1, e2⟩
  · rw [List.getElem?_append_right (by omega)] at e'
    have e3 : i - ts.length = 0 := by
      cases hh : i - ts.length with
      | zero => rfl
      | succ k => rw [hh] at e'; simp at e'
    rw [e3] at e'
    cases e'
    exact ⟨c, by rw [List.getElem?_append_right (by have := h.len; omega), ← h.len, e3]; rfl, e⟩
theorem Cm.idx {H : Hp} {ts : List Addr} {cs : List Cmd} (h : Cm H ts cs) {i : Nat} (hi : i < cs.length) : ∃ t, ts[i]? = some t ∧ H t = some (.tup [.int (cs[i].1 : Nat), .int (cs[i].2 : Nat)]) := by
  have hi' : i < ts.length := by rw [h.len]; exact hi
  obtain ⟨c, e1, e2⟩ := h.at_ i _ (List.getElem?_eq_getElem hi')
  rw [List.getElem?_eq_getElem hi] at e1
  cases e1
  exact ⟨_, List.getElem?_eq_getElem hi', e2⟩
theorem Cm.take {H : Hp} {ts : List Addr} {cs : List Cmd} (h : Cm H ts cs) (k : Nat) : Cm H (ts.take k) (cs.take k) := by
  refine ⟨by rw [List.length_take, List.length_take, h.len], fun i t e => ?_⟩
  rw [List.getElem?_take] at e
  split at e
  · rename_i hk
    obtain ⟨c, e1, e2⟩ := h.at_ i t e
    exact ⟨c, by rw [List.getElem?_take, if_pos hk]; exact e1, e2⟩
  · cases e
theorem Cm.drop {H : Hp} {ts : List Addr} {cs : List Cmd} (h : Cm H ts cs) (k : Nat) : Cm H (ts.drop k) (cs.drop k) := by
  refine ⟨by rw [List.length_drop, List.length_drop, h.len], fun i t e => ?_⟩
  rw [List.getElem?_drop] at e
  obtain ⟨c, e1, e2⟩ := h.at_ _ t e
  exact ⟨c, by rw [List.getElem?_drop]; exact e1, e2⟩
/-! the data of a script -/
def dC1 (c : Cmd) : PyData := .tuple [.int (c.1 : Nat), .int (c.2 : Nat)]
abbrev dC (cs : List Cmd) : PyData := .list (cs.map dC1)
theorem dp_cmAll {K : PySem.W.Frag} {H : Hp} : ∀ {ts : List Addr} {cs : List Cmd}, Cm H ts cs → DpAll K H (ts.map V.ref) (cs.map dC1)
  | [], [], _ => .nil
  | [], _ :: _, h => nomatch h.len
  | _ :: _, [], h => nomatch h.len
  | t :: ts, c :: cs, h => by
    obtain ⟨c', e1, e2⟩ := h.at_ 0 t rfl
    cases e1
    refine .cons (.tup (sqT e2) (.cons (.int _) (.cons (.int _) .nil))) (dp_cmAll ⟨by have := h.len; simpa using this, fun i t' e => ?_⟩)
    exact h.at_ (i + 1) t' e
theorem dp_cm {K : PySem.W.Frag} {H : Hp} {a : Addr} {ts : List Addr} {cs : List Cmd} (h : SqL K H a (ts.map V.ref)) (hc : Cm H ts cs) : Dp K H (.ref a) (dC cs) := .lst h (dp_cmAll hc)
theorem lay_cm : ∀ cs : List Cmd, PyData.canLayAll0 (cs.map dC1) = true
  | [] => rfl
  | _ :: r => lay_cm r
theorem depth_cm : ∀ cs : List Cmd, PyData.depthAll (cs.map dC1) ≤ 1
  | [] => by decide
  | c :: r => by
    have := depth_cm r
    show max 1 (PyData.depthAll (r.map dC1)) ≤ 1
    omega
theorem depth_dC (cs : List Cmd) : (dC cs).depth ≤ 2 := by
  have := depth_cm cs
  show PyData.depthAll (cs.map dC1) + 1 ≤ 2
  omega
theorem shaped_dC (cs : List Cmd) : SeqAt.shaped (dC cs) = true := by
  unfold SeqAt.shaped
  rw [Bool.and_eq_true]
  refine ⟨lay_cm cs, ?_⟩
  have := depth_dC cs
  rw [decide_eq_true_eq]
  omega
theorem shaped_nil : SeqAt.shaped (.list []) = true := rfl
theorem r_neNilC {K : PySem.W.Frag} {H : Hp} {a b : Addr} {ts : List Addr} {cs : List Cmd} {Q : VK} (h : SqL K H a (ts.map V.ref)) (hc : Cm H ts cs) (g : SqL K H b []) (q : Q (.bl (!decide (cs = []))) H) : rNeD K (.ref a) (.ref b) H Q := by
  refine ⟨_, _, dp_cm h hc, .lst g .nil, shaped_dC cs, shaped_nil, ?_⟩
  have e : PyData.eqv (dC cs) (.list []) = decide (cs = []) := by cases cs <;> rfl
  rw [e]; exact q
theorem sh_dC {cs : List Cmd} {n : Nat} (h : ∀ c ∈ cs, c.1 ≤ n ∧ c.2 ≤ n) (hn : n ≤ 100000) : Sh (cs.length * 25 + 2) (dC cs) := by
  have := Sh.list (b := 23) (ds := cs.map dC1) fun d hd => by
    obtain ⟨c, hc, rfl⟩ := List.mem_map.mp hd
    have hb := h c hc
    refine (Sh.tuple (b := 8) fun e he => ?_).mono (by show 2 * (8 + 2) + 3 ≤ 23; decide)
    rcases List.mem_cons.mp he with e1 | e1
    · rw [e1]; exact (Sh.int (k := 7) (by decide) (by omega) (by decide)).mono (by decide)
    · rw [List.mem_singleton.mp e1]; exact (Sh.int (k := 7) (by decide) (by omega) (by decide)).mono (by decide)
  rw [List.length_map] at this
  exact this
theorem Cm.sy {H H' : Hp} {ts : List Addr} {cs : List Cmd} {r g : Addr} {m : Nat} (h : Cm H ts cs) (hR : Bag H r g m) (s : Sy r g H H') : Cm H' ts cs := by
  obtain ⟨gs, l, t, b, hr, hg, _⟩ := hR
  exact ⟨h.len, fun i t e => let ⟨c, e1, e2⟩ := h.at_ i t e; ⟨c, e1, s _ _ (ne_of e2 hr (by intro z; cases z)) (ne_of e2 hg (by intro z; cases z)) e2⟩⟩
theorem rg_ascN (n : Nat) : rgV 1 (n + 1) = (ascN n).map V.int := by
  unfold rgV ascN
  rw [show ((n : Int) + 1 - 1).toNat = n by omega, List.map_map]
  rfl
open My
theorem at_tab {n k : Nat} {f : Nat → Int} {z : Int} (e : z = (k : Int)) (h : k < n) : atI ((tab n f).map V.int) z = some (.int (f k)) := at_of e (by rw [List.getElem?_map, tab_get h]; rfl)
/-- at as stand rows -/
structure Rws (H : Hp) (as : List Addr) (ls : List (List Int)) : Prop where
  len : as.length = ls.length
  at_ : ∀ (i : Nat) (t : Addr), as[i]? = some t → ∃ l, ls[i]? = some l ∧ H t = some (.lst (l.map V.int))
theorem Rws.same {H H' : Hp} {as : List Addr} {ls : List (List Int)} (h : Rws H as ls) (s : Same H H') : Rws H' as ls :=
  ⟨h.len, fun i t e => let ⟨l, e1, e2⟩ := h.at_ i t e; ⟨l, e1, s _ _ e2⟩⟩
theorem Rws.nil {H : Hp} : Rws H [] [] := ⟨rfl, fun i t e => by simp at e⟩
theorem Rws.app {H : Hp} {ts us : List Addr} {cs ds : List (List Int)} (h : Rws H ts cs) (g : Rws H us ds) : Rws H (ts ++ us) (cs ++ ds) := by
  refine ⟨by rw [List.length_append, List.length_append, h.len, g.len], fun i p e => ?_⟩
  by_cases q : i < ts.length
  · rw [List.getElem?_append_left q] at e
    obtain ⟨c, e1, e2⟩ := h.at_ i p e
    exact ⟨c, by rw [List.getElem?_append_left (h.len ▸ q)]; exact e1, e2⟩
  · rw [List.getElem?_append_right (by omega)] at e
    obtain ⟨c, e1, e2⟩ := g.at_ _ p e
    exact ⟨c, by rw [List.getElem?_append_right (by have := h.len; omega), ← h.len]; exact e1, e2⟩
theorem Rws.one {H : Hp} {t : Addr} {l : List Int} (h : H t = some (.lst (l.map V.int))) : Rws H [t] [l] := ⟨rfl, fun i p e => by
  cases i with
  | zero => cases e; exact ⟨l, rfl, h⟩
  | succ i => simp at e⟩
theorem Rws.idx {H : Hp} {as : List Addr} {ls : List (List Int)} (h : Rws H as ls) {i : Nat} (hi : i < ls.length) : ∃ t, as[i]? = some t ∧ H t = some (.lst (ls[i].map V.int)) := by
  have hi' : i < as.length := by rw [h.len]; exact hi
  obtain ⟨c, e1, e2⟩ := h.at_ i _ (List.getElem?_eq_getElem hi')
  rw [List.getElem?_eq_getElem hi] at e1
  cases e1
  exact ⟨_, List.getElem?_eq_getElem hi', e2⟩
/-- kept if all rows are new and only what was there before, or p, is written -/
theorem Rws.upd_ {H : Hp} {as : List Addr} {ls : List (List Int)} {p : Addr} {o : HO} (h : Rws H as ls) (n : p ∉ as) : Rws (upd H p o) as ls :=
  ⟨h.len, fun i t e => let ⟨l, e1, e2⟩ := h.at_ i t e; ⟨l, e1, upd_to (fun q => n (q ▸ List.mem_of_getElem? e)) e2⟩⟩
def pI (ps : List Nat) : List Int := ps.map fun (k : Nat) => (k : Int)
/-- a row after so many rounds -/
def pwr (ps : List Nat) : Nat → List Int → List Int
  | 0, l => l
  | k + 1, l => pwr ps k (nbs l ps)
theorem pwr_fix {ps : List Nat} {l : List Int} (h : nbs l ps = l) : ∀ k, pwr ps k l = l
  | 0 => rfl
  | k + 1 => by show pwr ps k (nbs l ps) = l; rw [h]; exact pwr_fix h k
def rep (k : Nat) (cs : List Cmd) : List Cmd := (List.replicate k cs).flatten
theorem rep_succ (k : Nat) (cs : List Cmd) : rep (k + 1) cs = cs ++ rep k cs := by unfold rep; rw [List.replicate_succ, List.flatten_cons]
theorem rep_add (j k : Nat) (cs : List Cmd) : rep (j + k) cs = rep j cs ++ rep k cs := by unfold rep; rw [← List.flatten_append, List.replicate_append_replicate]
theorem fits_rep {n : Nat} {cs : List Cmd} (h : Fits n cs) (k : Nat) : Fits n (rep k cs) := fun c hc => by
  obtain ⟨l, h1, h2⟩ := List.mem_flatten.mp hc
  rw [List.eq_of_mem_replicate h1] at h2
  exact h c h2
theorem fits_app {n : Nat} {cs ds : List Cmd} (h : Fits n cs) (g : Fits n ds) : Fits n (cs ++ ds) := fun c hc => by
  rcases List.mem_append.mp hc with z | z
  · exact h c z
  · exact g c z
theorem pwr_run {E : List Int} {ps : List Nat} {cs : List Cmd} (hs : Stand E ps) (hc : Fits E.length cs) (he : runM (desc E.length) cs = E) : ∀ (k : Nat) (l : List Int), l.length = E.length → pwr ps k l = runM l (rep k cs)
  | 0, _, _ => rfl
  | k + 1, l, hl => by
    show pwr ps k (nbs l ps) = _
    rw [stand_run hs hl hc he, pwr_run hs hc he k _ (by rw [runM_len (by rw [hl]; exact hc)]; exact hl), rep_succ, runM_app]
theorem Cm.app {H : Hp} {ts us : List Addr} {cs ds : List Cmd} (h : Cm H ts cs) (g : Cm H us ds) : Cm H (ts ++ us) (cs ++ ds) := by
  refine ⟨by rw [List.length_append, List.length_append, h.len, g.len], fun i p e => ?_⟩
  by_cases q : i < ts.length
  · rw [List.getElem?_append_left q] at e
    obtain ⟨c, e1, e2⟩ := h.at_ i p e
    exact ⟨c, by rw [List.getElem?_append_left (h.len ▸ q)]; exact e1, e2⟩
  · rw [List.getElem?_append_right (by omega)] at e
    obtain ⟨c, e1, e2⟩ := g.at_ _ p e
    exact ⟨c, by rw [List.getElem?_append_right (by have := h.len; omega), ← h.len]; exact e1, e2⟩
theorem Cm.reps {H : Hp} {ts : List Addr} {cs : List Cmd} (h : Cm H ts cs) : ∀ k : Nat, Cm H (List.replicate k ts).flatten (rep k cs)
  | 0 => Cm.nil
  | k + 1 => by rw [List.replicate_succ, List.flatten_cons, rep_succ]; exact h.app (Cm.reps h k)
theorem pI_len (ps : List Nat) : (pI ps).length = ps.length := by simp [pI]
open My
theorem rep_one (cs : List Cmd) : rep 1 cs = cs := by unfold rep; simp
theorem run_rep_succ (l : List Int) (k : Nat) (cs : List Cmd) : runM l (rep (k + 1) cs) = runM (runM l (rep k cs)) cs := by rw [rep_add, runM_app, rep_one]
theorem run_rep_fix {l : List Int} {cs : List Cmd} (h : runM l cs = l) : ∀ k, runM l (rep k cs) = l
  | 0 => rfl
  | k + 1 => by rw [run_rep_succ, run_rep_fix h k, h]
theorem rep_fits_len {n : Nat} {cs : List Cmd} (h : Fits n cs) (k : Nat) : (runM (desc n) (rep k cs)).length = n := by
  rw [runM_len (by rw [desc_len]; exact fits_rep h k), desc_len]
theorem gone {H H' : Hp} {p : Addr} (s : Same H H') (h : H' p = none) : H p = none := by
  cases e : H p with
  | none => rfl
  | some u => rw [s _ _ e] at h; cases h
/-- the rows before the first command and after each one, as lists of their own -/
structure Stg (H H' : Hp) (rs : List Addr) (ns : List Int) (cs : List Cmd) : Prop where
  len : rs.length = cs.length + 1
  at_ : ∀ i b, rs[i]? = some b → H b = none ∧ H' b = some (.lst ((runM ns (cs.take i)).map V.int))
/-- the pairs of the rows before and after each command, from the descending row on -/
structure Chg (H' : Hp) (us : List Addr) (n : Nat) (cs : List Cmd) : Prop where
  len : us.length = cs.length
  at_ : ∀ (i : Nat) (u : Addr), us[i]? = some u → ∃ r r', H' u = some (.tup [.ref r, .ref r']) ∧ H' r = some (.lst ((runM (desc n) (cs.take i)).map V.int)) ∧ H' r' = some (.lst ((runM (desc n) (cs.take (i + 1))).map V.int))
theorem Chg.same {H H' : Hp} {us : List Addr} {n : Nat} {cs : List Cmd} (h : Chg H us n cs) (s : Same H H') : Chg H' us n cs :=
  ⟨h.len, fun i u e => let ⟨r, r', q1, q2, q3⟩ := h.at_ i u e; ⟨r, r', s _ _ q1, s _ _ q2, s _ _ q3⟩⟩
local macro_rules | `(tactic| fail "one") => `(tactic| with_reducible first | refine Xk.r_iRev ?_)
def witV (l : List Int) : V := match witM l with
  | none => .non
  | some x => .int x
theorem neg1_at {xs : List V} {v : V} (h : 1 ≤ xs.length) (e : xs[xs.length - 1]? = some v) : atI xs (-1) = some v := by
  unfold atI ixN
  rw [if_neg (by omega), if_pos (by omega)]
  show xs[((-1 : Int) + xs.length).toNat]? = some v
  rw [show ((-1 : Int) + xs.length).toNat = xs.length - 1 by omega]
  exact e
theorem pI_head {l : List Nat} (h : l ≠ []) : ((pI l).map V.int)[0]? = some (.int ((l.headD 0 : Nat) : Int)) := by
  cases l with
  | nil => exact absurd rfl h
  | cons x r => rfl
theorem pI_last {l : List Nat} (h : l ≠ []) : ((pI l).map V.int)[((pI l).map V.int).length - 1]? = some (.int ((l.getLastD 0 : Nat) : Int)) := by
  have e : l = l.dropLast ++ [l.getLast h] := (List.dropLast_concat_getLast h).symm
  have e2 : l.getLastD 0 = l.getLast h := by rw [List.getLastD_eq_getLast?, List.getLast?_eq_some_getLast h]; rfl
  rw [e2]
  generalize l.getLast h = x at e ⊢
  rw [e]
  simp [pI]
theorem Cm.back {H : Hp} {ts : List Addr} {cs : List Cmd} (h : Cm H ts cs) : Cm H ts.reverse cs.reverse := by
  have hl := h.len
  refine ⟨by rw [List.length_reverse, List.length_reverse, hl], fun i t e => ?_⟩
  have hi : i < ts.length := by
    have := (List.getElem?_eq_some_iff.mp e).1
    rwa [List.length_reverse] at this
  rw [List.getElem?_reverse hi] at e
  obtain ⟨c, e1, e2⟩ := h.at_ _ t e
  exact ⟨c, by rw [List.getElem?_reverse (by omega), ← hl]; exact e1, e2⟩
theorem rg_upTo (n : Nat) : rgV 1 ((n : Int) + 1) = (ascN n).map V.int := by
  unfold rgV ascN
  rw [List.map_map, show ((n : Int) + 1 - 1).toNat = n by omega]
  rfl
/-- the shortest command over all places at which two rows differ, or None -/
def StD (H : Hp) (v : V) (a b : List Int) : Prop := (a = b ∧ v = .non) ∨ (a ≠ b ∧ ∃ p, v = .ref p ∧ H p = some (.tup [.int ((chgM a b).1 : Nat), .int ((chgM a b).2 : Nat)]))
theorem StD.same {H H' : Hp} {v : V} {a b : List Int} (h : StD H v a b) (s : Same H H') : StD H' v a b := by
  rcases h with h | ⟨h, p, e, g⟩
  · exact .inl h
  · exact .inr ⟨h, p, e, s _ _ g⟩
theorem std_same {H H' : Hp} {v : V} {a b : List Int} (s : Same H H') (h : StD H v a b) : StD H' v a b := h.same s
theorem std_new {H : Hp} {v : V} {a b : List Int} {p : Addr} {o : HO} (n : H p = none) (h : StD H v a b) : StD (upd H p o) v a b := h.same (same_new n)
def dStD (a b : List Int) : PyData := if a = b then .none else dC1 (chgM a b)
theorem StD.dp {K : PySem.W.Frag} {H : Hp} {v : V} {a b : List Int} (h : StD H v a b) : Dp K H v (dStD a b) := by
  unfold dStD
  rcases h with ⟨h, e⟩ | ⟨h, p, e, g⟩
  · rw [if_pos h, e]; exact .non
  · rw [if_neg h, e]; exact .tup (sqT g) (.cons (.int _) (.cons (.int _) .nil))
theorem shaped_StD (a b : List Int) : SeqAt.shaped (dStD a b) = true := by
  unfold dStD
  split <;> rfl
theorem eqv_StD (a b : List Int) : PyData.eqv (dStD a b) (dStD a b) = true := by
  unfold dStD
  split
  · rfl
  · show (((((chgM a b).1 : Nat) : Int) == (((chgM a b).1 : Nat) : Int)) && (((((chgM a b).2 : Nat) : Int) == (((chgM a b).2 : Nat) : Int)) && true)) = true
    simp
local macro_rules | `(tactic| fail "kp") => `(tactic| with_reducible first
  | (apply std_same; assumption; fail "kp")
  | (apply std_new; assumption; fail "kp"))
def CmF (H1 : Hp) (D : Addr) (ds : List Cmd) (H : Hp) : Prop := ∃ es : List Addr, H D = some (.lst (es.map V.ref)) ∧ Same H1 H ∧ (∀ t ∈ es, H1 t = none ∧ t ≠ D) ∧ Cm H es ds
theorem cmf_nil {H1 : Hp} {D : Addr} (nD : H1 D = none) : CmF H1 D [] (upd H1 D (.lst [])) := ⟨[], upd_same, same_new nD, (fun t ht => by cases ht), Cm.nil⟩
theorem CmF.same {H1 H H' : Hp} {D : Addr} {ds : List Cmd} (h : CmF H1 D ds H) (s : Same H H') : CmF H1 D ds H' := by
  obtain ⟨es, hD, sk, hfe, hE⟩ := h
  exact ⟨es, s _ _ hD, sk.trans s, hfe, hE.same s⟩
theorem cmf_put {H1 H H' : Hp} {D p : Addr} {ds : List Cmd} {c : Cmd} (h : CmF H1 D ds H) (nD : H1 D = none) (hi : ds.length ≤ 100000) (s : Same H H') (n : H p = none) (hp : H' p = some (.tup [.int (c.1 : Nat), .int (c.2 : Nat)])) :
    ∃ acc, H' D = some (.lst acc) ∧ acc.length < sizeLine ∧ CmF H1 D (ds ++ [c]) (upd H' D (.lst (acc ++ [.ref p]))) := by
  obtain ⟨es, hD, sk, hfe, hE⟩ := h
  have n5 := sk.free n
  have h5D : p ≠ D := (ne_of_none hD n).symm
  refine ⟨_, s _ _ hD, by rw [List.length_map, hE.len]; exact size_lt (by omega), es ++ [p], by rw [upd_same]; simp, same_old (sk.trans s) nD, fun t ht => ?_, ((hE.same s).snoc hp).put (s _ _ hD)⟩
  rcases List.mem_append.mp ht with z | z
  · exact hfe t z
  · rw [List.mem_singleton.mp z]; exact ⟨n5, h5D⟩
theorem r_notT' {A B : Prop} (h : A) : if (if true then !false else false) = true then A else B := by simpa using h
theorem r_notF' {A B : Prop} (h : B) : if (if true then !true else true) = true then A else B := by simpa using h
theorem eqv_cs : ∀ cs ds : List Cmd, PyData.eqvAll (cs.map dC1) (ds.map dC1) = decide (cs = ds)
  | [], [] => rfl
  | [], _ :: _ => rfl
  | _ :: _, [] => rfl
  | c :: r, d :: t => by
    show (((((c.1 : Nat) : Int) == ((d.1 : Nat) : Int)) && ((((c.2 : Nat) : Int) == ((d.2 : Nat) : Int)) && true)) && PyData.eqvAll (r.map dC1) (t.map dC1)) = _
    rw [eqv_cs r t]
    obtain ⟨a, b⟩ := c
    obtain ⟨a', b'⟩ := d
    by_cases e : a = a' <;> by_cases g : b = b' <;> by_cases f : r = t <;> simp [e, g, f] <;> omega
theorem r_eqCs {K : PySem.W.Frag} {H : Hp} {a b : Addr} {ts us : List Addr} {cs ds : List Cmd} {Q : VK} (h : SqL K H a (ts.map V.ref)) (hc : Cm H ts cs) (g : SqL K H b (us.map V.ref)) (gc : Cm H us ds) (q : Q (.bl (decide (cs = ds))) H) : rEqD K (.ref a) (.ref b) H Q :=
  ⟨_, _, dp_cm h hc, dp_cm g gc, shaped_dC cs, shaped_dC ds, by rw [show PyData.eqv (dC cs) (dC ds) = decide (cs = ds) from eqv_cs cs ds]; exact q⟩
theorem r_neCs {K : PySem.W.Frag} {H : Hp} {a b : Addr} {ts us : List Addr} {cs ds : List Cmd} {Q : VK} (h : SqL K H a (ts.map V.ref)) (hc : Cm H ts cs) (g : SqL K H b (us.map V.ref)) (gc : Cm H us ds) (q : Q (.bl (!decide (cs = ds))) H) : rNeD K (.ref a) (.ref b) H Q :=
  ⟨_, _, dp_cm h hc, dp_cm g gc, shaped_dC cs, shaped_dC ds, by rw [show PyData.eqv (dC cs) (dC ds) = decide (cs = ds) from eqv_cs cs ds]; exact q⟩
section keep
variable {K : PySem.W.Frag} {H H' H1 : Hp} {Q : VK} {a b p r g : Addr} {o : HO} {ns : List Int} {m : Nat}
theorem n_sorted (h : SqL K H a (ns.map V.int)) (q : New Q H (.lst ((srt ns).map V.int))) : rSortedI K [.ref a] H Q := ⟨a, ns, rfl, h, fun ns' p hp hu np => by
  have e := srt_is hp hu
  subst e
  exact q p np⟩
theorem Rws.row {as : List Addr} {ls : List (List Int)} (h : Rws H as ls) {i : Nat} {t : Addr} {l : List Int} (e : as[i]? = some t) (g : ls[i]? = some l) : H t = some (.lst (l.map V.int)) := by
  obtain ⟨l', e1, e2⟩ := h.at_ i t e
  rw [g] at e1; cases e1; exact e2
theorem n_reprC {ts : List Addr} {cs : List Cmd} {n : Nat} (h : SqL K H a (ts.map V.ref)) (hc : Cm H ts cs) (hf : Fits n cs) (hn : n ≤ 100000) (hl : cs.length ≤ 600000) (q : Q (.str (dC cs).shown) H) : rReprD K [.ref a] H Q :=
  r_repr (d := dC cs) (dp_cm h hc) (Nat.le_trans (depth_dC cs) (by decide)) (sh_dC (n := n) (fun c hc => by have := hf c hc; omega) hn) (by omega) q
/-- rows written one by one into a new list -/
def RwI (H1 : Hp) (D : Addr) (ms : List (List Int)) (i : Nat) (H : Hp) : Prop := ∃ es : List Addr, es.length = i ∧ H D = some (.lst (es.map V.ref)) ∧ Same H1 H ∧ (∀ t ∈ es, H1 t = none ∧ t ≠ D) ∧ Rws H es (ms.take i)
theorem rwi_nil {D : Addr} {ms : List (List Int)} (nD : H1 D = none) : RwI H1 D ms 0 (upd H1 D (.lst [])) := ⟨[], rfl, upd_same, same_new nD, (fun t ht => by cases ht), Rws.nil⟩
theorem rwi_put {D : Addr} {ms : List (List Int)} {i : Nat} {l : List Int} (h : RwI H1 D ms i H) (nD : H1 D = none) (hl : ms[i]? = some l) (hi : i ≤ 100000) (s : Same H H') (n : H p = none) (hp : H' p = some (.lst (l.map V.int))) :
    ∃ acc, H' D = some (.lst acc) ∧ acc.length < sizeLine ∧ RwI H1 D ms (i + 1) (upd H' D (.lst (acc ++ [.ref p]))) := by
  obtain ⟨es, hel, hD, sk, hfe, hE⟩ := h
  have hi' : i < ms.length := (List.getElem?_eq_some_iff.mp hl).1
  have ei : ms[i] = l := (List.getElem?_eq_some_iff.mp hl).2
  have n5 := sk.free n
  have h5D : p ≠ D := (ne_of_none hD n).symm
  refine ⟨_, s _ _ hD, by rw [List.length_map, hel]; exact size_lt (by omega), es ++ [p], by rw [List.length_append, hel]; rfl, by rw [upd_same]; simp, same_old (sk.trans s) nD, fun t ht => ?_, ?_⟩
  · rcases List.mem_append.mp ht with z | z
    · exact hfe t z
    · rw [List.mem_singleton.mp z]; exact ⟨n5, h5D⟩
  · rw [take_one hi', ei]
    refine (Rws.app (hE.same s) (Rws.one hp)).upd_ fun hm => ?_
    rcases List.mem_append.mp hm with z | z
    · exact (hfe _ z).2 rfl
    · exact h5D (List.mem_singleton.mp z).symm
theorem rwi_end {D : Addr} {ms : List (List Int)} {n : Nat} (h : RwI H1 D ms n H) (e : n = ms.length) : ∃ es : List Addr, H D = some (.lst (es.map V.ref)) ∧ Same H1 H ∧ (∀ t ∈ es, H1 t = none) ∧ Rws H es ms := by
  obtain ⟨es, hel, hD, sk, hfe, hE⟩ := h
  rw [e, List.take_of_length_le (Nat.le_refl _)] at hE
  exact ⟨es, hD, sk, fun t ht => (hfe t ht).1, hE⟩
theorem cm_same {ts : List Addr} {cs : List Cmd} (s : Same H H') (h : Cm H ts cs) : Cm H' ts cs := h.same s
theorem rws_same {as : List Addr} {ls : List (List Int)} (s : Same H H') (h : Rws H as ls) : Rws H' as ls := h.same s
theorem cm_new {ts : List Addr} {cs : List Cmd} (np : H a = none) (h : Cm H ts cs) : Cm (upd H a o) ts cs := h.same (same_new np)
theorem rws_new {as : List Addr} {ls : List (List Int)} (np : H a = none) (h : Rws H as ls) : Rws (upd H a o) as ls := h.same (same_new np)
/-- commands written one by one into a new list -/
def CmI (H1 : Hp) (D : Addr) (ds : List Cmd) (i : Nat) (H : Hp) : Prop := ∃ es : List Addr, es.length = i ∧ H D = some (.lst (es.map V.ref)) ∧ Same H1 H ∧ (∀ t ∈ es, H1 t = none ∧ t ≠ D) ∧ Cm H es (ds.take i)
theorem cmi_nil {D : Addr} {ds : List Cmd} (nD : H1 D = none) : CmI H1 D ds 0 (upd H1 D (.lst [])) := ⟨[], rfl, upd_same, same_new nD, (fun t ht => by cases ht), Cm.nil⟩
theorem cmi_put {D : Addr} {ds : List Cmd} {i : Nat} {c : Cmd} (h : CmI H1 D ds i H) (nD : H1 D = none) (hl : ds[i]? = some c) (hi : i ≤ 100000) (s : Same H H') (n : H p = none) (hp : H' p = some (.tup [.int (c.1 : Nat), .int (c.2 : Nat)])) :
    ∃ acc, H' D = some (.lst acc) ∧ acc.length < sizeLine ∧ CmI H1 D ds (i + 1) (upd H' D (.lst (acc ++ [.ref p]))) := by
  obtain ⟨es, hel, hD, sk, hfe, hE⟩ := h
  have hi' : i < ds.length := (List.getElem?_eq_some_iff.mp hl).1
  have ei : ds[i] = c := (List.getElem?_eq_some_iff.mp hl).2
  have n5 := sk.free n
  have h5D : p ≠ D := (ne_of_none hD n).symm
  refine ⟨_, s _ _ hD, by rw [List.length_map, hel]; exact size_lt (by omega), es ++ [p], by rw [List.length_append, hel]; rfl, by rw [upd_same]; simp, same_old (sk.trans s) nD, fun t ht => ?_, ?_⟩
  · rcases List.mem_append.mp ht with z | z
    · exact hfe t z
    · rw [List.mem_singleton.mp z]; exact ⟨n5, h5D⟩
  · rw [take_one hi', ei]
    exact ((hE.same s).snoc hp).put (s _ _ hD)
theorem cmi_end {D : Addr} {ds : List Cmd} {n : Nat} (h : CmI H1 D ds n H) (e : n = ds.length) : ∃ es : List Addr, H D = some (.lst (es.map V.ref)) ∧ Same H1 H ∧ (∀ t ∈ es, H1 t = none) ∧ Cm H es ds := by
  obtain ⟨es, hel, hD, sk, hfe, hE⟩ := h
  rw [e, List.take_of_length_le (Nat.le_refl _)] at hE
  exact ⟨es, hD, sk, fun t ht => (hfe t ht).1, hE⟩
theorem last_at {as : List Addr} {t : Addr} : atI ((as ++ [t]).map V.ref) (-1) = some (.ref t) := by
  unfold atI ixN
  rw [if_neg (by omega), if_pos (by rw [List.length_map, List.length_append]; simp only [List.length_singleton]; omega)]
  show ((as ++ [t]).map V.ref)[((-1 : Int) + ((as ++ [t]).map V.ref).length).toNat]? = _
  rw [show ((-1 : Int) + (((as ++ [t]).map V.ref).length : Nat)).toNat = as.length by simp; omega]
  simp
theorem last_ix {as : List Addr} {t : Addr} : ixN ((as ++ [t]).map V.ref).length (-1) = some as.length := by
  unfold ixN
  rw [if_neg (by omega), if_pos (by rw [List.length_map, List.length_append]; simp only [List.length_singleton]; omega)]
  exact congrArg some (by simp; omega)
theorem last_set {as : List Addr} {t u : Addr} : ((as ++ [t]).map V.ref).set as.length (.ref u) = (as ++ [u]).map V.ref := by simp
end keep
local macro_rules | `(tactic| fail "kp") => `(tactic| with_reducible first
  | (apply cm_same; assumption; fail "kp")
  | (apply rws_same; assumption; fail "kp")
  | (apply cm_new; assumption; fail "kp")
  | (apply rws_new; assumption; fail "kp"))
/-- it stood not before -/
local macro_rules | `(tactic| fail "kpz") => `(tactic| with_reducible first
  | assumption
  | (apply L2.Same.free; assumption; fail "kpz"))
theorem at_last {ns : List Int} {x : Int} : atI ((ns ++ [x]).map V.int) (-1) = some (.int x) := by
  unfold atI ixN
  rw [if_neg (by omega), if_pos (by rw [List.length_map, List.length_append]; simp only [List.length_singleton]; omega)]
  show ((ns ++ [x]).map V.int)[((-1 : Int) + ((ns ++ [x]).map V.int).length).toNat]? = _
  rw [show ((-1 : Int) + (((ns ++ [x]).map V.int).length : Nat)).toNat = ns.length by simp; omega]
  simp
theorem at_opt {ns : List Int} {z x : Int} {j : Nat} (e : z = (j : Int)) (h : ns[j]? = some x) : atI (ns.map V.int) z = some (.int x) :=
  at_of e (by rw [List.getElem?_map, h]; rfl)
theorem rep_sing {n : Nat} {x : V} : (List.replicate n [x]).flatten = List.replicate n x := by
  induction n with
  | zero => rfl
  | succ n ih => rw [List.replicate_succ, List.flatten_cons, ih, List.replicate_succ]; rfl
theorem pick_m2 {α : Type} (xs : List α) (x : α) : pickV (xs ++ [x]) (some (-2)) none (some (-1)) = xs.reverse := by
  have hl : (xs ++ [x]).length = xs.length + 1 := by simp
  have hb : pickIx (xs ++ [x]).length (some (-2)) none (some (-1)) = (List.range xs.length).map fun k => xs.length - 1 - k := by
    have hb0 : sliceBounds (some (-2)) none (some (-1)) (xs.length + 1) = ((xs.length : Int) - 1, -1, -1) := by
      show (max (-1 : Int) (min (-2 + ((xs.length + 1 : Nat) : Int)) (((xs.length + 1 : Nat) : Int) - 1)), (-1 : Int), (-1 : Int)) = _
      rw [show max (-1 : Int) (min (-2 + ((xs.length + 1 : Nat) : Int)) (((xs.length + 1 : Nat) : Int) - 1)) = (xs.length : Int) - 1 by omega]
    rw [hl]
    unfold pickIx
    rw [hb0]
    exact PySem.W.krv_sliceRange xs.length
  unfold pickV
  rw [hb]
  refine List.ext_getElem? fun i => ?_
  rw [show ((List.range xs.length).map fun k => xs.length - 1 - k) = (List.range xs.length).reverse by
    refine List.ext_getElem (by simp) fun i h1 h2 => ?_
    rw [List.getElem_map, List.getElem_reverse]; simp]
  rw [List.filterMap_reverse]
  have : (List.range xs.length).filterMap (fun i => (xs ++ [x])[i]?) = xs := by
    have h : ∀ k, k ≤ xs.length → (List.range k).filterMap (fun i => (xs ++ [x])[i]?) = xs.take k := fun k => by
      induction k with
      | zero => intro _; rfl
      | succ k ih =>
        intro hk
        have hk' : k < xs.length := by omega
        rw [List.range_succ, List.filterMap_append, ih (by omega), List.take_add_one, List.getElem?_eq_getElem hk']
        simp [hk', List.getElem?_append_left]
    rw [h _ (Nat.le_refl _), List.take_of_length_le (Nat.le_refl _)]
  rw [this]
theorem Rws.rev {H : Hp} {as : List Addr} {ls : List (List Int)} (h : Rws H as ls) : Rws H as.reverse ls.reverse := by
  have hl := h.len
  refine ⟨by rw [List.length_reverse, List.length_reverse, hl], fun i t e => ?_⟩
  have hi : i < as.length := by
    have := (List.getElem?_eq_some_iff.mp e).1
    rwa [List.length_reverse] at this
  rw [List.getElem?_reverse hi] at e
  obtain ⟨c, e1, e2⟩ := h.at_ _ t e
  exact ⟨c, by rw [List.getElem?_reverse (by omega), ← hl]; exact e1, e2⟩
/-- the table's counts -/
abbrev cntN (cs : List Cmd) (n z : Nat) : Nat → Nat := fun p => zc (backM cs (ascN n)) (z : Int) p
theorem tab_at {N : Nat → Nat} {n z p : Nat} (h : p ≤ n) : (tabW N n z)[p]? = some (rowW N n z (n - p)) := by
  unfold tabW
  rw [List.getElem?_map, List.getElem?_range (by omega)]; rfl
/-- at ts stand the pairs ws, as tuples -/
structure Cw (H : Hp) (ts : List Addr) (ws : List Pr) : Prop where
  len : ts.length = ws.length
  at_ : ∀ (i : Nat) (t : Addr), ts[i]? = some t → ∃ c, ws[i]? = some c ∧ H t = some (.tup [.int c.1, .int c.2])
theorem Cw.same {H H' : Hp} {ts : List Addr} {ws : List Pr} (h : Cw H ts ws) (s : Same H H') : Cw H' ts ws :=
  ⟨h.len, fun i t e => let ⟨c, e1, e2⟩ := h.at_ i t e; ⟨c, e1, s _ _ e2⟩⟩
theorem Cw.idx {H : Hp} {ts : List Addr} {ws : List Pr} (h : Cw H ts ws) {i : Nat} (hi : i < ws.length) : ∃ t, ts[i]? = some t ∧ H t = some (.tup [.int ws[i].1, .int ws[i].2]) := by
  have hi' : i < ts.length := by rw [h.len]; exact hi
  obtain ⟨c, e1, e2⟩ := h.at_ i _ (List.getElem?_eq_getElem hi')
  rw [List.getElem?_eq_getElem hi] at e1
  cases e1
  exact ⟨_, List.getElem?_eq_getElem hi', e2⟩
theorem Cm.toCw {H : Hp} {ts : List Addr} {cs : List Cmd} (h : Cm H ts cs) : Cw H ts (cs.map toW) :=
  ⟨by rw [List.length_map]; exact h.len, fun i t e => let ⟨c, e1, e2⟩ := h.at_ i t e; ⟨toW c, by rw [List.getElem?_map, e1]; rfl, e2⟩⟩
theorem Cw.toCm {H : Hp} {ts : List Addr} {cs : List Cmd} (h : Cw H ts (cs.map toW)) : Cm H ts cs :=
  ⟨by have := h.len; rwa [List.length_map] at this, fun i t e => by
    obtain ⟨c, e1, e2⟩ := h.at_ i t e
    rw [List.getElem?_map] at e1
    cases g : cs[i]? with
    | none => rw [g] at e1; cases e1
    | some d => rw [g] at e1; cases e1; exact ⟨d, rfl, e2⟩⟩
/-- an exception of the class at c, its value y -/
def Err (H : Hp) (E : XK) (c : Addr) (y : V) : Prop := ∀ (H' : Hp) (d : Addr), Same H H' → H' d = none → E (.ref c) (some d) (upd H' d (.xd [(("value" : Str), y)]))
theorem Err.up {H H1 : Hp} {E : XK} {c : Addr} {y : V} (h : Err H E c y) (s : Same H H1) : Err H1 E c y := fun H' d s' hd => h H' d (s.trans s') hd
/-- what a script is wrong with, for a size -/
def BadRun (T : Txt K mg) (n : Int) (ws : List Pr) (c : Addr) (y : V) : Prop := (n < 1 ∧ c = T.InvalidSize_a ∧ y = .int n) ∨ (1 ≤ n ∧ ∃ i : Nat, eW n ws = some i ∧ c = T.InvalidCommand_a ∧ y = .int i)
/-- what a row and a script are wrong with -/
def BadGB (T : Txt K mg) (ns : List Int) (ws : List Pr) (c : Addr) (y : V) : Prop := (∃ i : Nat, eR ns = some i ∧ c = T.InvalidRow_a ∧ y = .int i) ∨ (eR ns = none ∧ ∃ i : Nat, eW ns.length ws = some i ∧ c = T.InvalidCommand_a ∧ y = .int i)
/-- what two scripts are wrong with, for a size -/
def Bad2 (T : Txt K mg) (n : Int) (us ws : List Pr) (c : Addr) (y : V) : Prop := BadRun T n us c y ∨ (1 ≤ n ∧ eW n us = none ∧ BadRun T n ws c y)
def kvC (m : Cnt) : List (List Key × V) := m.map fun p => (p.1.map Sum.inl, V.int (p.2 : Int))
theorem inl_inj {k l : List Int} : (k.map (Sum.inl : Int → Key) = l.map Sum.inl) ↔ k = l := ⟨fun h => List.map_inj_right (fun _ _ e => Sum.inl.inj e) |>.mp h, fun h => h ▸ rfl⟩
theorem kvC_len (m : Cnt) : (kvC m).length = m.length := List.length_map _
theorem kvC_find (k : List Int) : ∀ m : Cnt, (kvC m).find? (fun kv => decide (kv.1 = k.map Sum.inl)) = (m.find? fun p => decide (p.1 = k)).map fun p => (p.1.map Sum.inl, V.int (p.2 : Int))
  | [] => rfl
  | p :: m => by
    have ih := kvC_find k m
    by_cases e : p.1 = k
    · have h1 : decide (p.1 = k) = true := decide_eq_true e
      have h2 : decide ((p.1.map (Sum.inl : Int → Key), V.int (p.2 : Int)).1 = k.map Sum.inl) = true := decide_eq_true (inl_inj.mpr e)
      show List.find? _ ((p.1.map Sum.inl, V.int (p.2 : Int)) :: kvC m) = _
      rw [List.find?_cons_of_pos (p := fun kv : List Key × V => decide (kv.1 = k.map Sum.inl)) h2, List.find?_cons_of_pos (p := fun p : List Int × Nat => decide (p.1 = k)) h1]; rfl
    · have h1 : ¬ decide (p.1 = k) = true := by rw [decide_eq_true_eq]; exact e
      have h2 : ¬ decide ((p.1.map (Sum.inl : Int → Key), V.int (p.2 : Int)).1 = k.map Sum.inl) = true := by rw [decide_eq_true_eq]; exact fun z => e (inl_inj.mp z)
      show List.find? _ ((p.1.map Sum.inl, V.int (p.2 : Int)) :: kvC m) = _
      rw [List.find?_cons_of_neg (p := fun kv : List Key × V => decide (kv.1 = k.map Sum.inl)) h2, List.find?_cons_of_neg (p := fun p : List Int × Nat => decide (p.1 = k)) h1]; exact ih
theorem kvC_get (m : Cnt) (k : List Int) : (valV (kvC m) (k.map Sum.inl)).getD (.int 0) = .int (getC m k : Nat) := by
  unfold valV getC
  rw [kvC_find]
  cases m.find? fun p => decide (p.1 = k) <;> rfl
theorem kvC_any (k : List Int) (m : Cnt) : ((kvC m).any fun kv => decide (kv.1 = k.map Sum.inl)) = m.any fun p => decide (p.1 = k) := by
  unfold kvC
  rw [List.any_map]
  congr 1
  funext p
  exact decide_eq_decide.mpr inl_inj
theorem kvC_put (m : Cnt) (k : List Int) (v : Nat) : putK (kvC m) (k.map Sum.inl) (.int (v : Int)) = kvC (putC m k v) := by
  unfold putK putC
  rw [kvC_any]
  split
  · unfold kvC
    rw [List.map_map, List.map_map]
    refine List.map_congr_left fun p _ => ?_
    by_cases e : p.1 = k
    · show (if p.1.map Sum.inl = k.map Sum.inl then _ else _) = _
      rw [if_pos (inl_inj.mpr e)]
      show _ = ((if p.1 = k then (p.1, v) else p).1.map Sum.inl, V.int ((if p.1 = k then (p.1, v) else p).2 : Nat))
      rw [if_pos e]
    · show (if p.1.map Sum.inl = k.map Sum.inl then _ else _) = _
      rw [if_neg fun z => e (inl_inj.mp z)]
      show _ = ((if p.1 = k then (p.1, v) else p).1.map Sum.inl, V.int ((if p.1 = k then (p.1, v) else p).2 : Nat))
      rw [if_neg e]
  · unfold kvC
    rw [List.map_append]; rfl
theorem kV_map (k : List Int) : (k.map (Sum.inl : Int → Key)).map kV = k.map V.int := by rw [List.map_map]; rfl
theorem n_tupOf {K : PySem.W.Frag} {H : Hp} {Q : VK} {p : Addr} {xs : List V} (h : SqL K H p xs) (q : New Q H (.tup xs)) : rTupOf K [.ref p] H Q := ⟨p, xs, rfl, .inl ⟨h, q⟩⟩
/-- the next row, or None -/
def RowN (H H' : Hp) (v : V) (o : Option (List Int)) : Prop := match o with
  | none => v = .non
  | some r => ∃ p : Addr, v = .ref p ∧ H p = none ∧ H' p = some (.lst (r.map V.int))
def RowS (H : Hp) (v : V) (o : Option (List Int)) : Prop := match o with
  | none => v = .non
  | some r => ∃ p : Addr, v = .ref p ∧ H p = some (.lst (r.map V.int))
theorem RowS.same {H H' : Hp} {v : V} {o : Option (List Int)} (h : RowS H v o) (s : Same H H') : RowS H' v o := by
  cases o with
  | none => exact h
  | some r => obtain ⟨p, e, g⟩ := h; exact ⟨p, e, s _ _ g⟩
def FreshV (H : Hp) (v : V) : Prop := ∀ p : Addr, v = .ref p → H p = none
theorem RowN.st {H H' : Hp} {v : V} {o : Option (List Int)} (h : RowN H H' v o) : RowS H' v o := by
  cases o with
  | none => exact h
  | some r => obtain ⟨p, e, _, g⟩ := h; exact ⟨p, e, g⟩
theorem RowN.fresh {H0 H H' : Hp} {v : V} {o : Option (List Int)} (h : RowN H H' v o) (s : Same H0 H) : FreshV H0 v := fun q hq => by
  cases o with
  | none => have h : v = .non := h; rw [h] at hq; cases hq
  | some r =>
    obtain ⟨p, e, n, _⟩ := h
    rw [e] at hq; cases hq
    exact s.free n
/-- where the script kept and a row come from -/
def Orig (q : Option (Addr × List Addr × Nat × V)) (H0 : Hp) (sh : Addr) (us : List Addr) (v : V) : Prop := match q with
  | none => H0 sh = none ∧ (∀ t ∈ us, H0 t = none) ∧ FreshV H0 v
  | some (sh0, us0, _, v0) => sh = sh0 ∧ us = us0 ∧ (v = v0 ∨ FreshV H0 v)
theorem Orig.next {q : Option (Addr × List Addr × Nat × V)} {H0 : Hp} {sh : Addr} {us : List Addr} {v w : V} (h : Orig q H0 sh us v) (f : FreshV H0 w) : Orig q H0 sh us w := by
  rcases q with _ | ⟨sh0, us0, j0, v0⟩
  · exact ⟨h.1, h.2.1, f⟩
  · exact ⟨h.1, h.2.1, .inr f⟩
theorem r_vwhile {U : Type} {D : VEnds U} {u : U} {σ : L2.St} {H : Hp} {tc : TT} {tb : TV U} (W : Nat → U → L2.St → Hp → Prop) (m : Nat) (h0 : W m u σ H)
    (hs : ∀ m u σ H, W m u σ H → tc σ H fun d H1 => if d = true then ∃ N : U → L2.St → Hp → Prop, (∀ u' σ' H', N u' σ' H' → ∃ m', m' < m ∧ W m' u' σ' H') ∧ tb { D with nx := N, ct := N, bk := D.nx } u σ H1 else D.nx u σ H1) : tVWhile tc tb D u σ H := ⟨W, ⟨m, h0⟩, hs⟩
/-- results, row by row -/
@[reducible] def resV (K : PySem.W.Frag) (n : Nat) (b : Addr) (ts : List Addr) (cs : List Cmd) : Mach where
  S := Option (Addr × List Addr × Nat × V)
  n := (resM n cs).length
  St := fun i q H => match q with
    | none => i = 0 ∧ SqL K H b (ts.map V.ref) ∧ Cm H ts cs
    | some (sh, us, j, v) => i = resN n cs j ∧ H sh = some (.lst (us.map V.ref)) ∧ Cm H us (trimR (desc n) cs) ∧ RowS H v (arrM n n)[j]?
  Y := fun i q H x q' H' => ∃ (sh : Addr) (us : List Addr) (j : Nat) (v : V) (a : Addr) (r : List Int), q' = some (sh, us, j, v) ∧ x = .ref a ∧ Same H H' ∧ (resM n cs)[i]? = some r ∧ H' a = some (.lst (r.map V.int)) ∧
    H' sh = some (.lst (us.map V.ref)) ∧ Cm H' us (trimR (desc n) cs) ∧ RowS H' v (arrM n n)[j]? ∧ resN n cs j = i + 1 ∧ Orig q H sh us (.ref a) ∧ FreshV H v
  tame := fun i q H x q' H' h => by
    obtain ⟨_, _, _, _, _, _, _, _, s, _⟩ := h
    exact Tame.of_same s
/-- what needed_zeros finds wrong -/
def BadNz (T : Txt K mg) (n z : Int) (ws : List Pr) (c : Addr) (y : V) : Prop := BadRun T n ws c y ∨ (1 ≤ n ∧ eW n ws = none ∧ (z < 0 ∨ n < z) ∧ c = T.InvalidNumber_a ∧ y = .int z)
/-- what nth_sorted_bits finds wrong -/
def BadNth (T : Txt K mg) (n z k : Int) (ws : List Pr) (c : Addr) (y : V) : Prop := BadNz T n z ws c y ∨ ∃ (m v : Nat) (cs : List Cmd), n = (m : Int) ∧ z = (v : Int) ∧ 1 ≤ m ∧ v ≤ m ∧ Fits m cs ∧ ws = cs.map toW ∧ (k < 0 ∨ ((Wd (cntN cs m v) m v m 0 : Nat) : Int) ≤ k) ∧ c = T.InvalidNumber_a ∧ y = .int k
structure Kd3 (K : PySem.W.Frag) (T : Txt K mg) (D : Addr) (j : Nat) : Prop where
  k0 : PySem.W.kitOne K (.ref D) (.ref T.InvalidSize_a) = some (decide (j = 0))
  k1 : PySem.W.kitOne K (.ref D) (.ref T.InvalidCommand_a) = some (decide (j = 1))
  k2 : PySem.W.kitOne K (.ref D) (.ref T.InvalidNumber_a) = some (decide (j = 2))
  o0 : PySem.W.kitOne K (.ref D) (.ref T.InvalidRow_a) = some false
  o1 : PySem.W.kitOne K (.ref D) (.ref T.NothingToUndo_a) = some false
  o2 : PySem.W.kitOne K (.ref D) (.ref T.UnequalSizes_a) = some false
  o3 : PySem.W.kitOne K (.ref D) (.ref T.Unreadable_a) = some false
  v : PySem.W.kitOne K (.ref D) (.type "ValueError") = some true
  x : ExcC K D
  xf : XfC K D
  no : PySem.W.findIn K (.ref D) "value" = some none
  lt : j < 3
theorem kit4 {K : PySem.W.Frag} {T : Txt K mg} {D : Addr} {j : Nat} (h : Kd3 K T D j) : PySem.W.kitAny K (.ref D) [.ref T.InvalidRow_a, .ref T.NothingToUndo_a, .ref T.UnequalSizes_a, .ref T.Unreadable_a] = some false := by
  simp only [PySem.W.kitAny, h.o0, h.o1, h.o2, h.o3]
theorem kd_size {K : PySem.W.Frag} (T : Txt K mg) : Kd3 K T T.InvalidSize_a 0 :=
  ⟨T.InvalidSize_is_InvalidSize, T.InvalidSize_is_InvalidCommand, T.InvalidSize_is_InvalidNumber, T.InvalidSize_is_InvalidRow, T.InvalidSize_is_NothingToUndo, T.InvalidSize_is_UnequalSizes, T.InvalidSize_is_Unreadable, T.InvalidSize_is_ValueError, T.InvalidSize_X, T.InvalidSize_E.xf, T.InvalidSize_E.no, by decide⟩
theorem kd_command {K : PySem.W.Frag} (T : Txt K mg) : Kd3 K T T.InvalidCommand_a 1 :=
  ⟨T.InvalidCommand_is_InvalidSize, T.InvalidCommand_is_InvalidCommand, T.InvalidCommand_is_InvalidNumber, T.InvalidCommand_is_InvalidRow, T.InvalidCommand_is_NothingToUndo, T.InvalidCommand_is_UnequalSizes, T.InvalidCommand_is_Unreadable, T.InvalidCommand_is_ValueError, T.InvalidCommand_X, T.InvalidCommand_E.xf, T.InvalidCommand_E.no, by decide⟩
theorem kd_number {K : PySem.W.Frag} (T : Txt K mg) : Kd3 K T T.InvalidNumber_a 2 :=
  ⟨T.InvalidNumber_is_InvalidSize, T.InvalidNumber_is_InvalidCommand, T.InvalidNumber_is_InvalidNumber, T.InvalidNumber_is_InvalidRow, T.InvalidNumber_is_NothingToUndo, T.InvalidNumber_is_UnequalSizes, T.InvalidNumber_is_Unreadable, T.InvalidNumber_is_ValueError, T.InvalidNumber_X, T.InvalidNumber_E.xf, T.InvalidNumber_E.no, by decide⟩
def wordsD : List Str := ["size", "command", "number"]
/-- what is due: None, or a word, a number and 0 -/
def TrV (H H' : Hp) (v : V) (d : Option (Str × Int)) : Prop := match d with
  | none => v = .non
  | some (nm, i) => ∃ p : Addr, v = .ref p ∧ H p = none ∧ H' p = some (.tup [.str nm, .int i, .int 0])
def dTr (d : Option (Str × Int)) : PyData := match d with
  | none => .none
  | some (nm, i) => .tuple [.str nm, .int i, .int 0]
theorem dTr_shaped {d : Option (Str × Int)} (h : ∀ nm i, d = some (nm, i) → PySem.PyData.strOk nm = true) : SeqAt.shaped (dTr d) = true := by
  rcases d with _ | ⟨nm, i⟩
  · rfl
  · unfold SeqAt.shaped
    rw [Bool.and_eq_true]
    refine ⟨?_, rfl⟩
    show (PySem.PyData.strOk nm && (true && (true && true))) = true
    rw [h _ _ rfl]; rfl
/-- it stands so -/
def TrS (H : Hp) (v : V) (d : Option (Str × Int)) : Prop := match d with
  | none => v = .non
  | some (nm, i) => ∃ p : Addr, v = .ref p ∧ H p = some (.tup [.str nm, .int i, .int 0])
theorem TrV.st {H H' : Hp} {v : V} {d : Option (Str × Int)} (h : TrV H H' v d) : TrS H' v d := by
  rcases d with _ | ⟨nm, i⟩
  · exact h
  · obtain ⟨p, e, _, g⟩ := h; exact ⟨p, e, g⟩
theorem TrS.same {H H' : Hp} {v : V} {d : Option (Str × Int)} (h : TrS H v d) (s : Same H H') : TrS H' v d := by
  rcases d with _ | ⟨nm, i⟩
  · exact h
  · obtain ⟨p, e, g⟩ := h; exact ⟨p, e, s _ _ g⟩
theorem TrS.dp {K : PySem.W.Frag} {H : Hp} {v : V} {d : Option (Str × Int)} (h : TrS H v d) : Dp K H v (dTr d) := by
  rcases d with _ | ⟨nm, i⟩
  · obtain rfl : v = .non := h; exact .non
  · obtain ⟨p, rfl, g⟩ := h; exact .tup (sqT g) (.cons (.str _) (.cons (.int _) (.cons (.int _) .nil)))
theorem r_neTr {K : PySem.W.Frag} {H : Hp} {v w : V} {d : Option (Str × Int)} {Q : VK} (ok : ∀ nm i, d = some (nm, i) → PySem.PyData.strOk nm = true) (h : TrS H v d) (g : TrS H w d) (q : Q (.bl false) H) : rNeD K v w H Q :=
  ⟨_, _, h.dp, g.dp, dTr_shaped ok, dTr_shaped ok, by rw [SeqAt.eqv_refl _ (SeqAt.canLay_of_shaped (dTr_shaped ok))]; exact q⟩
/-- the layers of what is due, from the inside -/
def dqW (which : Nat) (k : Int) : Option (Str × Int) := if which = 1 then some ("number", k) else none
def dqZ (which : Nat) (n z k : Int) : Option (Str × Int) := if which < 2 ∧ ¬ (0 ≤ z ∧ z ≤ n) then some ("number", z) else dqW which k
def dqC (which : Nat) (n z k : Int) (ws : List Pr) : Option (Str × Int) := match eW n ws with
  | some i => some ("command", (i : Int))
  | none => dqZ which n z k
def dqS (which : Nat) (n z k : Int) (ws : List Pr) : Option (Str × Int) := if n < 1 then some ("size", n) else dqC which n z k ws
theorem dqS_ok {which : Nat} {n z k : Int} {ws : List Pr} : ∀ nm i, dqS which n z k ws = some (nm, i) → PySem.PyData.strOk nm = true := fun nm i e => by
  unfold dqS dqC dqZ dqW at e
  split at e
  · cases e; decide +kernel
  · split at e
    · cases e; decide +kernel
    · split at e
      · cases e; decide +kernel
      · split at e
        · cases e; decide +kernel
        · cases e
theorem ini_InvalidCommand (T : Txt K mg) : FnOk P w K mg base L2.CX0 1 T.InvalidCommand_i_a T.InvalidCommand_i_d ["self", "value"] (spIni K T.InvalidCommand_a) := by
  refine T.InvalidCommand_i_F.ok sc_InvalidCommand_i (fun vs H Q E h => ?_) (fun cdv A ou t H vs Q E hr h => ⟨_, pss_one (ps_ost (pv 0) (pv 1)), ini_read h⟩)
  obtain ⟨_, _, rfl, _⟩ := h; rfl
theorem ini_InvalidNumber (T : Txt K mg) : FnOk P w K mg base L2.CX0 1 T.InvalidNumber_i_a T.InvalidNumber_i_d ["self", "value"] (spIni K T.InvalidNumber_a) := by
  refine T.InvalidNumber_i_F.ok sc_InvalidNumber_i (fun vs H Q E h => ?_) (fun cdv A ou t H vs Q E hr h => ⟨_, pss_one (ps_ost (pv 0) (pv 1)), ini_read h⟩)
  obtain ⟨_, _, rfl, _⟩ := h; rfl
theorem ini_InvalidRow (T : Txt K mg) : FnOk P w K mg base L2.CX0 1 T.InvalidRow_i_a T.InvalidRow_i_d ["self", "value"] (spIni K T.InvalidRow_a) := by
  refine T.InvalidRow_i_F.ok sc_InvalidRow_i (fun vs H Q E h => ?_) (fun cdv A ou t H vs Q E hr h => ⟨_, pss_one (ps_ost (pv 0) (pv 1)), ini_read h⟩)
  obtain ⟨_, _, rfl, _⟩ := h; rfl
theorem ini_InvalidSize (T : Txt K mg) : FnOk P w K mg base L2.CX0 1 T.InvalidSize_i_a T.InvalidSize_i_d ["self", "value"] (spIni K T.InvalidSize_a) := by
  refine T.InvalidSize_i_F.ok sc_InvalidSize_i (fun vs H Q E h => ?_) (fun cdv A ou t H vs Q E hr h => ⟨_, pss_one (ps_ost (pv 0) (pv 1)), ini_read h⟩)
  obtain ⟨_, _, rfl, _⟩ := h; rfl
def sp_sort_stretches (K : PySem.W.Frag) : Sp := fun vs H Q _ => ∃ (a b : Addr) (ns : List Int) (ts : List Addr) (cs : List Cmd), vs = [.ref a, .ref b] ∧ SqL K H a (ns.map V.int) ∧ SqL K H b (ts.map V.ref) ∧ Cm H ts cs ∧ ns.length ≤ 1000 ∧ Fits ns.length cs ∧
  ∀ (H' : Hp) (p : Addr), Same H H' → H p = none → H' p = some (.lst ((runM ns cs).map V.int)) → Q (.ref p) H'
theorem ok_sort_stretches (T : Txt K mg) : FnG P w K mg base CX0 1 T.sort_stretches_a T.sort_stretches_d ["row", "commands"] (sp_sort_stretches K) := by
  refine okG T.sort_stretches_F sc_sort_stretches (fun vs H Q E h => ?_) (fun cdv A ou t H vs Q E hG hr h => ?_)
  · obtain ⟨_, _, _, _, _, rfl, _⟩ := h; rfl
  have nd := sc_sort_stretches.nd
  obtain ⟨a, b, ns, ts, cs, rfl, hS, hB, hC, hn2, hF, q⟩ := h
  refine ⟨_, (pss_cons (sset 2 nd (pe_callTy (listK K) (by rfl) T.m_list (by decide +kernel) (pa_cons (pv 0) pa_nil)))
      (pss_cons (ps_for PassesOwn.never rfl (pi_listK K (pv 1)) (pg_tupK K 2 rfl (pgs_cons (gset 3 nd) (pgs_cons (gset 4 nd) pgs_nil)))
        (pss_one (ps_asg (pe_callB (sortedK K) (by rfl) T.m_sorted (by decide +kernel) (pa_cons (pe_slice (sl_listK K) (pv 2) (po_some (pe_op op_sub (pv 3) pe_int)) (po_some (pv 4))) pa_nil)) (pg_slc (pv 2) (po_some (pe_op op_sub (pv 3) pe_int)) (po_some (pv 4))))))
      (pss_one (ps_ret (pv 2))))), ?_⟩
  fail "g"
  intro p np
  have hp : H p = none := np
  have s2 := same_new (o := .lst (ns.map V.int)) np
  have hB2 := s2.seq hB
  fail "g"
  refine forA (walk_list (xs := ts.map V.ref)) (fun i σ' H' => ∃ y3 y4, σ' = [some (.ref a), some (.ref b), some (.ref p), y3, y4] ∧ Same H H' ∧ H' p = some (.lst ((runM ns (cs.take i)).map V.int)))
    ⟨none, none, rfl, s2, upd_same⟩ (fun i σ' H' _ q => ?_) (fun i σ' H' hi q => ?_) (fun σ' H' q' => ?_)
  · obtain ⟨_, _, _, s, _⟩ := q; exact s.seq hB
  · obtain ⟨y3, y4, rfl, s, hP⟩ := q
    have hi' : i < cs.length := by rw [← hC.len]; simpa using hi
    obtain ⟨t0, et, ht⟩ := hC.idx hi'
    have e1 : (ts.map V.ref)[i] = .ref t0 := by
      have : (ts.map V.ref)[i]? = some (.ref t0) := by rw [List.getElem?_map, et]; rfl
      rw [List.getElem?_eq_getElem hi] at this
      exact Option.some.inj this
    rw [e1]
    have hc := hF cs[i] (List.getElem_mem hi')
    have ht1 := s _ _ ht
    have hlenP : (runM ns (cs.take i)).length = ns.length := runM_len hF.take
    fail "g"
    intro l0 n0
    rw [cut_mid (a := cs[i].1 - 1) (b := cs[i].2) (by omega) rfl (by rw [List.length_map]; omega), ← List.map_drop, ← List.map_take] at *
    fail "g"
    refine ⟨l0, _, rfl, sq upd_same, fun ns' l1 hperm hup n1 => ?_⟩
    have e2 := srt_is hperm hup
    subst e2
    fail "g"
    have hP2 := upd_old (o := .lst ((srt (((runM ns (cs.take i)).drop (cs[i].1 - 1)).take (cs[i].2 - (cs[i].1 - 1)))).map V.int)) n1 (upd_old (o := .lst ((((runM ns (cs.take i)).drop (cs[i].1 - 1)).take (cs[i].2 - (cs[i].1 - 1))).map V.int)) n0 hP)
    refine ⟨p, l1, _, _, _, _, rfl, rfl, rfl, rfl, hP2, upd_same, ne_of_none (upd_old n0 hP) n1, by omega, by omega, by rw [List.length_map]; omega, ?_, ?_⟩
    · rw [List.length_map, List.length_map, srt_len, List.length_take, List.length_drop]; exact size_le (by omega)
    · refine ⟨_, _, rfl, same_old ((s.trans (same_new n0)).trans (same_new n1)) hp, ?_⟩
      rw [upd_same, take_one hi', runM_snoc]
      rw [show ((cs[i].1 : Nat) - 1 : Int).toNat = cs[i].1 - 1 by omega, show ((cs[i].2 : Nat) : Int).toNat = cs[i].2 by omega, ← List.map_take, ← List.map_drop, ← List.map_append, ← List.map_append]
      rfl
  · obtain ⟨y3, y4, rfl, s, hP⟩ := q'
    fail "g"
    rw [List.take_of_length_le (by rw [List.length_map, hC.len]; exact Nat.le_refl _)] at hP
    exact q _ _ s hp hP
def sp_descending_row (K : PySem.W.Frag) : Sp := fun vs H Q _ => ∃ (n : Nat), vs = [.int n] ∧ n ≤ 1000 ∧ ∀ (H' : Hp) (p : Addr), Same H H' → H p = none → H' p = some (.lst ((desc n).map V.int)) → Q (.ref p) H'
theorem ok_descending_row (T : Txt K mg) : FnG P w K mg base CX0 1 T.descending_row_a T.descending_row_d ["size"] (sp_descending_row K) := by
  refine okG T.descending_row_F sc_descending_row (fun vs H Q E h => ?_) (fun cdv A ou t H vs Q E hG hr h => ?_)
  · obtain ⟨_, rfl, _⟩ := h; rfl
  have nd := sc_descending_row.nd
  obtain ⟨n, rfl, hn, q⟩ := h
  refine ⟨_, (pss_one (ps_ret (pe_listRg3 rfl (by rfl) T.m_list (by rfl) T.m_range (pa_cons (pv 0) (pa_cons pe_int (pa_cons (pe_un un_neg pe_int) pa_nil)))))), ?_⟩
  fail "g"
  refine ⟨_, _, _, _, rfl, RgC.neg (by omega) (by omega) (by omega) (by omega), by omega, fun p np => ?_⟩
  refine q _ p (same_new np) np (upd_same.trans ?_)
  have e : rg3V (n : Int) (-1) ((n : Int) - 0).toNat = (desc n).map V.int := by
    rw [show ((n : Int) - 0).toNat = n by omega]
    unfold rg3V desc
    rw [List.map_map]
    refine List.map_congr_left fun k _ => ?_
    show V.int ((n : Int) + (k : Nat) * (-1)) = V.int ((n : Int) - (k : Nat))
    rw [show ((n : Int) + (k : Nat) * (-1)) = (n : Int) - (k : Nat) by omega]
  rw [e]
def sp_changed_stretch (K : PySem.W.Frag) : Sp := fun vs H Q _ => ∃ (a b : Addr) (ns ms : List Int), vs = [.ref a, .ref b] ∧ SqL K H a (ns.map V.int) ∧ SqL K H b (ms.map V.int) ∧ ns.length = ms.length ∧ ns.length ≤ 1000 ∧ ns ≠ ms ∧
  ∀ (H' : Hp) (p : Addr), Same H H' → H p = none → H' p = some (.tup [.int ((chgM ns ms).1 : Nat), .int ((chgM ns ms).2 : Nat)]) → Q (.ref p) H'
theorem ok_changed_stretch (T : Txt K mg) : FnG P w K mg base CX0 1 T.changed_stretch_a T.changed_stretch_d ["before", "after"] (sp_changed_stretch K) := by
  refine okG T.changed_stretch_F sc_changed_stretch (fun vs H Q E h => ?_) (fun cdv A ou t H vs Q E hG hr h => ?_)
  · obtain ⟨_, _, _, _, rfl, _⟩ := h; rfl
  have nd := sc_changed_stretch.nd
  obtain ⟨a, b, ns, ms, rfl, hA, hB, hl, hn, hne, q⟩ := h
  refine ⟨_, (pss_cons (ps_setLc (i := 2) (hy := rfl) (hyl := rfl) (hsw := sw_true rfl rfl rfl (by decide +kernel)) (own := [("place", 3), ("old", 4), ("new", 5)]) (hc := rfl) (hN := nd) (hi := (pi_enumZK K (by decide) (by decide) (by rfl) T.m_enumerate (by rfl) T.m_zip (pa_cons (pv 0) (pa_cons (pv 1) pa_nil)))) (ok := blkOk_by (by rfl)) (hg := fun _ _ _ _ _ => (pg_tupK K 2 rfl (pgs_cons (gset 3 nd) (pgs_cons (pg_tupK K 2 rfl (pgs_cons (gset 4 nd) (pgs_cons (gset 5 nd) pgs_nil))) pgs_nil)))) (ht := (fun _ _ _ _ _ => pts_one (pt_cmpR op_ne (pv 4) (pv 5) (nomark _)))) (he := fun _ _ _ _ _ => (pv 3)))
      (pss_one (ps_ret (pe_tup (pa_cons (pe_ix (ix_listK K) (pv 2) pe_int (fun _ _ => rfl)) (pa_cons (pe_ix (ix_listK K) (pv 2) (pe_un un_neg pe_int) (fun _ _ => rfl)) pa_nil)))))), ?_⟩
  fail "ww"
  refine ⟨a, b, ns.map V.int, ms.map V.int, rfl, hA, hB, fun D nD => ?_⟩
  refine lc_it (walk_enumZ (n := ns.length) (xs := ns.map V.int) (ys := ms.map V.int) (by rw [List.length_map, List.length_map]; omega)) (fun i Hi => Same H Hi ∧ Hi D = some (.lst ((pI (difU ns ms i)).map V.int))) ⟨same_new nD, upd_same⟩ (fun i Hi _ p => ?_) (fun i x Hi Hi' hi p y => ?_) (fun H1 p => ?_)
  · obtain ⟨s, _⟩ := p
    exact ⟨by fail "kp", by fail "kp"⟩
  · obtain ⟨T, T2, x1, y1, rfl, nT, nT2, ne, rfl, ex, ey⟩ := y
    obtain ⟨s, hD⟩ := p
    have hm : i < ms.length := by omega
    rw [List.getElem?_map, List.getElem?_eq_getElem hi] at ex
    rw [List.getElem?_map, List.getElem?_eq_getElem hm] at ey
    cases ex
    cases ey
    have nT2' : upd Hi T (.tup [.int ns[i], .int ms[i]]) T2 = none := by rw [upd_ne (Ne.symm ne)]; exact nT2
    have hD2 : upd (upd Hi T (.tup [.int ns[i], .int ms[i]])) T2 (.tup [.int (1 + (i : Nat)), .ref T]) D = some (.lst ((pI (difU ns ms i)).map V.int)) := by fail "kp"
    have s2 : Same H (upd (upd Hi T (.tup [.int ns[i], .int ms[i]])) T2 (.tup [.int (1 + (i : Nat)), .ref T])) := by fail "kp"
    fail "ww"
    refine ⟨rfl, ?_⟩
    fail "ww"
    have e1 : ns[i] = ns.getD i 0 := by simp [List.getD, hi]
    have e2 : ms[i] = ms.getD i 0 := by simp [List.getD, hm]
    refine r_ndec (fun h => ?_) (fun h => ?_)
    · fail "ww"
      have hd : difU ns ms (i + 1) = difU ns ms i ++ [i + 1] := difU_yes (by rw [← e1, ← e2]; exact h)
      refine ⟨_, hD2, by rw [List.length_map, pI_len]; exact size_lt (by have := difU_len ns ms i; omega), same_old s2 nD, ?_⟩
      rw [hd, upd_same]
      simp [pI]
      omega
    · have hd : difU ns ms (i + 1) = difU ns ms i := difU_no (by rw [← e1, ← e2]; exact fun z => z h)
      rw [hd]
      exact ⟨s2, hD2⟩
  · obtain ⟨s1, hD⟩ := p
    replace hD : H1 D = some (.lst ((pI (dif ns ms)).map V.int)) := hD
    have hdn := dif_ne hl hne
    have hdl : 0 < (dif ns ms).length := List.length_pos_iff.mpr hdn
    fail "ww"
    refine r_ixL (sq hD) (at_of (j := 0) rfl (pI_head hdn)) ?_
    fail "ww"
    refine r_ixL (sq hD) (neg1_at (by rw [List.length_map, pI_len]; exact hdl) (pI_last hdn)) ?_
    fail "ww"
    refine new_ fun p H2 np s2 hp => ?_
    exact q _ p (s1.trans s2) (s1.free np) hp
def sp_ways_to_go_on (K : PySem.W.Frag) : Sp := fun vs H Q _ => ∃ (a : Addr) (N : Nat → Nat) (n z : Nat) (_u : Unit), vs = [.ref a] ∧ H a = some (.lst ((needL N n).map V.int)) ∧ N n = z ∧ n ≤ 1000 ∧ z ≤ n ∧
  ∀ (H' : Hp) (p : Addr) (as : List Addr), Same H H' → H p = none → H' p = some (.lst (as.map V.ref)) → Rws H' as (tabW N n z) → Q (.ref p) H'
theorem ok_ways_to_go_on (T : Txt K mg) : FnG P w K mg base CX0 1 T.ways_to_go_on_a T.ways_to_go_on_d ["needed"] (sp_ways_to_go_on K) := by
  refine okG T.ways_to_go_on_F sc_ways_to_go_on (fun vs H Q E h => ?_) (fun cdv A ou t H vs Q E hG hr h => ?_)
  · obtain ⟨_, _, _, _, _, rfl, _⟩ := h; rfl
  have nd := sc_ways_to_go_on.nd
  obtain ⟨a, N, n, z, _, rfl, hA, hz, hn, hzn, q⟩ := h
  refine ⟨_, (pss_cons (sset 1 nd (pe_ix (ix_listK K) (pv 0) (pe_un un_neg pe_int) (fun _ _ => rfl)))
      (pss_cons (sset 2 nd (pe_lst (pa_cons (pe_op op_cat (pe_op op_rep (pe_lst (pa_cons pe_int pa_nil)) (pv 1)) (pe_lst (pa_cons pe_int (pa_cons pe_int pa_nil)))) pa_nil)))
      (pss_cons (ps_for PassesOwn.never rfl (pi_listK K (pe_sl3K K (pv 0) (po_some (pe_un un_neg pe_int)) po_none (po_some (pe_un un_neg pe_int)))) (gset 3 nd)
        (pss_cons (sset 4 nd (pe_ix (ix_listK K) (pv 2) (pe_un un_neg pe_int) (fun _ _ => rfl)))
      (pss_cons (ps_setLc (i := 5) (hy := rfl) (hyl := rfl) (hsw := sw_true rfl rfl rfl (by decide +kernel)) (own := [("found", 6)]) (hc := rfl) (hN := nd) (hi := (pi_range1 (by rfl) T.m_range (pa_cons (pe_op op_add (pv 1) pe_int) pa_nil))) (ok := blkOk_by (by rfl)) (hg := fun _ _ _ _ _ => (gset 6 nd)) (ht := (fun _ _ _ _ _ => pts_nil)) (he := fun _ _ _ _ _ => (pe_ifExp (pt_cmpR op_ge (pv 6) (pv 3) (nomark _)) (pe_op op_add (pe_ix (ix_listK K) (pv 4) (pv 6) (fun _ _ => rfl)) (pe_ix (ix_listK K) (pv 4) (pe_op op_add (pv 6) pe_int) (fun _ _ => rfl))) pe_int)))
      (pss_one (ps_expr (pe_bmK K PySem.F.plainAttrs_list PySem.F.slot_list_append PySem.F.type_list_append mt_append (pv 2) (pa_cons (pe_lst (StX.pa_star (pv 5) (pa_cons pe_int pa_nil))) pa_nil)))))))
      (pss_one (ps_ret (pe_revLK K (pv 2))))))), ?_⟩
  fail "ww"
  refine r_ixL (sq hA) (by rw [needL_last]; exact at_last) ?_
  rw [hz]
  fail "ww"
  refine new_ fun q1 H1 n1 s1 h1 => ?_
  fail "ww"
  refine n_rep (zs := [.int 0]) h1 (by omega) (by simp; omega) ?_
  rw [rep_sing]
  refine new_ fun q2 H2 n2 s2 h2 => ?_
  fail "ww"
  refine new_ fun q3 H3 n3 s3 h3 => ?_
  refine n_catI (ns := List.replicate z 0) (ms := [1, 0]) (by rw [s3 _ _ h2, List.map_replicate]) h3 (by rw [List.length_replicate]; simp; omega) ?_
  rw [← rowW_zero N n z]
  refine new_ fun q4 H4 n4 s4 h4 => ?_
  fail "ww"
  refine new_ fun l H5 nl s5 h5 => ?_
  fail "ww"
  have s05 : Same H H5 := s1.trans (s2.trans (s3.trans (s4.trans s5)))
  have nl0 : H l = none := s1.free (s2.free (s3.free (s4.free nl)))
  have h45 := s5 _ _ h4
  have hl4 : q4 ≠ l := (ne_of_none h4 nl)
  have hA5 := s05 _ _ hA
  clear s1 s2 s3 s4 s5 n1 n2 n3 n4 nl h1 h2 h3 h4
  refine ⟨by decide, ?_, ?_⟩
  · rw [pick_map, needL_last, pick_m2, List.length_map, List.length_reverse, List.length_map, List.length_range]; omega
  rw [pick_map, needL_last, pick_m2]
  refine new_ fun r H6 nr s6 hr => ?_
  have h56 := s6 _ _ h5
  have h46 := s6 _ _ h45
  have s06 := s05.trans s6
  have hlr : r ≠ l := ne_of_none h5 nr |>.symm
  clear h5 h45 s05 s6 hA5 nr
  fail "ww"
  refine forAI (walk_list (xs := ((List.range n).map fun p => ((N p : Nat) : Int)).reverse.map V.int)) (fun i σ' H' => ∃ (y3 y4 y5 y6 : Option V) (as : List Addr) (t : Addr), σ' = [some (.ref a), some (.int z), some (.ref l), y3, y4, y5, y6] ∧ Sx l H6 H' ∧ Same H H' ∧ H' l = some (.lst ((as ++ [t]).map V.ref)) ∧ as.length = i ∧ (∀ u ∈ as ++ [t], u ≠ l) ∧ Rws H' (as ++ [t]) ((List.range (i + 1)).map (rowW N n z)))
    ⟨none, none, none, none, [], q4, rfl, Sx.refl, s06, h56, rfl, (fun u hu => by rw [List.mem_singleton.mp hu]; exact hl4), Rws.one h46⟩ (fun i σ' H' _ p' => ?_) (fun i σ' H' hi p' => ?_) (fun σ' H' p' => ?_)
  · obtain ⟨_, _, _, _, _, _, _, s, _⟩ := p'; exact sq (s _ _ hlr hr)
  · clear s06 h56 h46 hl4
    obtain ⟨y3, y4, y5, y6, as, t, rfl, sx, s, hl, hal, hne, hR⟩ := p'
    have hi' : i < n := by simpa using hi
    have hge : ((List.range n).map fun p => ((N p : Nat) : Int)).reverse[i] = ((N (n - (i + 1)) : Nat) : Int) := by
      rw [List.getElem_reverse]
      simp only [List.getElem_map, List.getElem_range, List.length_map, List.length_range]
      rw [show n - 1 - i = n - (i + 1) by omega]
    rw [hge]
    have ht : H' t = some (.lst ((rowW N n z i).map V.int)) := Rws.row hR (i := i) (by rw [List.getElem?_append_right (by omega), hal]; simp) (by rw [List.getElem?_map, List.getElem?_range (by omega)]; rfl)
    fail "ww"
    refine r_ixL (sq hl) last_at ?_
    fail "ww"
    refine ⟨by omega, by omega, fun D nD => ?_⟩
    refine lc_sameF (n := ((z : Int) + 1).toNat) walk_range (fun j => ((List.range j).map fun s => ((Wd N n z (i + 1) s : Nat) : Int)).map V.int) nD (Same.refl _) rfl (fun _ _ => trivial) (fun j Hj hj pp => ?_) (fun H7 s7 hD => ?_)
    · have hj' : j ≤ z := by omega
      have htj := pp.1 _ _ ht
      rw [show (0 : Int) + (j : Int) = ((j : Nat) : Int) by omega]
      fail "ww"
      refine ⟨rfl, ?_⟩
      fail "ww"
      refine r_dec (fun g => ?_) (fun g => ?_)
      · fail "ww"
        refine r_ixL (sq htj) (at_opt (j := j) rfl (rowW_at (by omega))) ?_
        fail "ww"
        refine r_ixL (sq htj) (at_opt (j := j + 1) (by omega) (rowW_at (by omega))) ?_
        fail "ww"
        refine lc_add pp (Same.refl _) nD ?_ (by rw [List.length_map, List.length_map, List.length_range]; exact size_lt (by omega))
        have ew : Wd N n z (i + 1) j = Wd N n z i j + Wd N n z i (j + 1) := by rw [wd_succ, if_pos ⟨hj', by omega⟩]
        rw [List.range_succ, List.map_append, List.map_append, List.map_singleton, ew]
        simp
      · fail "ww"
        refine lc_add pp (Same.refl _) nD ?_ (by rw [List.length_map, List.length_map, List.length_range]; exact size_lt (by omega))
        have ew : Wd N n z (i + 1) j = 0 := by rw [wd_succ, if_neg (by omega)]
        rw [List.range_succ, List.map_append, List.map_append, List.map_singleton, ew]
        simp
    · rw [show ((z : Int) + 1).toNat = z + 1 by omega] at hD
      have hrow : ((List.range (z + 1)).map fun s => ((Wd N n z (i + 1) s : Nat) : Int)) ++ [0] = rowW N n z (i + 1) := by
        unfold rowW
        rw [List.range_succ (n := z + 1), List.map_append]
        have : Wd N n z (i + 1) (z + 1) = 0 := wd_out (by omega)
        rw [List.map_cons, this]; rfl
      have hl7 := s7 _ _ hl
      fail "ww"
      refine ⟨D, _, rfl, .inr (sq hD), ?_⟩
      fail "ww"
      refine ⟨by rw [List.length_append, List.length_map, List.length_map, List.length_range]; exact size_le (by simp; omega), ?_⟩
      rw [show (((List.range (z + 1)).map fun s => ((Wd N n z (i + 1) s : Nat) : Int)).map V.int) ++ [V.int 0] = (rowW N n z (i + 1)).map V.int by rw [← hrow, List.map_append]; rfl]
      refine new_ fun u H8 nu s8 hu => ?_
      have s78 := s7.trans s8
      have hl8 := s8 _ _ hl7
      have hul : u ≠ l := (ne_of_none hl7 nu).symm
      fail "ww"
      refine r_append hl8 (by rw [List.length_map, List.length_append, hal]; exact size_lt (by simp; omega)) ?_
      refine ⟨_, _, _, _, as ++ [t], u, rfl, (sx.same s78).trans Sx.put, ?_, by rw [upd_same]; simp, by rw [List.length_append, hal]; rfl, fun v hv => ?_, ?_⟩
      · intro b' o' e'
        have hb : b' ≠ l := ne_of_none e' nl0
        rw [upd_ne hb]
        exact s78 _ _ (s _ _ e')
      · rcases List.mem_append.mp hv with e | e
        · exact hne v e
        · rw [List.mem_singleton.mp e]; exact hul
      · rw [List.range_succ (n := i + 1), List.map_append (f := rowW N n z)]
        refine Rws.upd_ (Rws.app (hR.same s78) (Rws.one hu)) fun hm => ?_
        rcases List.mem_append.mp hm with e | e
        · exact hne _ e rfl
        · exact hul (List.mem_singleton.mp e).symm
  · obtain ⟨y3, y4, y5, y6, as, t, rfl, sx, s, hl, hal, hne, hR⟩ := p'
    rw [List.length_map, List.length_reverse, List.length_map, List.length_range] at hR
    fail "ww"
    refine new_ fun p H9 np s9 hp => ?_
    rw [← List.map_reverse] at hp
    refine q _ p _ (s.trans s9) (s.free np) hp ?_
    rw [← tab_rev]
    exact (hR.same s9).rev
def sp_longer_beginnings (K : PySem.W.Frag) : Sp := fun vs H Q _ => ∃ (a b : Addr) (m : Cnt) (ls : List Int) (t : Nat), vs = [.ref a, .ref b] ∧ H a = some (.dT (kvC m)) ∧ SqL K H b (ls.map V.int) ∧ atI (ls.map V.int) (-1) = some (.int (t : Int)) ∧ t ≤ 1000 ∧ m.length ≤ 5000 ∧ (∀ p ∈ m, p.1.length ≤ 1000) ∧
  ∀ (H' : Hp) (l : Addr), Same H H' → H l = none → H' l = some (.dT (kvC (longC ls t m))) → Q (.ref l) H'
theorem ok_longer_beginnings (T : Txt K mg) : FnG P w K mg base CX0 1 T.longer_beginnings_a T.longer_beginnings_d ["many", "limits"] (sp_longer_beginnings K) := by
  refine okG T.longer_beginnings_F sc_longer_beginnings (fun vs H Q E h => ?_) (fun cdv A ou t H vs Q E hG hr h => ?_)
  · obtain ⟨_, _, _, _, _, rfl, _⟩ := h; rfl
  have nd := sc_longer_beginnings.nd
  obtain ⟨a, b, m, ls, t, rfl, hA, hL, hat, ht, hml, hkl, q⟩ := h
  refine ⟨_, (pss_cons (sset 2 nd pe_dnewT)
      (pss_cons (ps_lock (ps_for PassesOwn.never rfl (pi_pairsT (pv 0)) (pg_tupK K 2 rfl (pgs_cons (gset 3 nd) (pgs_cons (gset 4 nd) pgs_nil)))
        (pss_one (ps_for PassesOwn.never rfl (pi_range2 (by rfl) T.m_range (pa_cons pe_int (pa_cons (pe_op op_add (pe_ix (ix_listK K) (pv 1) (pe_un un_neg pe_int) (fun _ _ => rfl)) pe_int) pa_nil))) (gset 5 nd)
        (pss_cons (sset 6 nd (pe_callTy (tupleK K) (by rfl) T.m_tuple (by decide +kernel) (pa_cons (pe_callB (sortedK K) (by rfl) T.m_sorted (by decide +kernel) (pa_cons (pe_lst (StX.pa_star (pv 3) (pa_cons (pv 5) pa_nil))) pa_nil)) pa_nil)))
      (pss_one (ps_if (PW.pt (pw_and (pt_cmpR (notInK K) (pv 5) (pv 3) (by rfl)) (pw_and1 (pt_val (pe_callB (allK K rfl) (by rfl) T.m_all (by decide +kernel) (pa_cons (pe_lc (own := [("mine", 7), ("limit", 8)]) (hc := rfl) (hN := nd) (hi := (pi_zipTLK K (by rfl) T.m_zip (pa_cons (pv 6) (pa_cons (pv 1) pa_nil)))) (ok := blkOk_by (by rfl)) (hg := fun _ _ _ _ _ => (pg_tupK K 2 rfl (pgs_cons (gset 7 nd) (pgs_cons (gset 8 nd) pgs_nil)))) (ht := (fun _ _ _ _ _ => pts_nil)) (he := fun _ _ _ _ _ => (pe_cmpR op_le (pv 7) (pv 8) (nomark _)))) pa_nil))))))
        (pss_one (ps_dput (hu_of hr) (pv 2) (pv 6) (pe_op op_add (pe_dget2 (hu_of hr) (pv 2) (pv 6) pe_int ⟨by rfl, by rfl, by rfl, by rfl⟩) (pv 4)) rfl))
        pss_nil)))))))
      (pss_one (ps_ret (pv 2))))), ?_⟩
  fail "ww"
  intro l nl
  have hla : l ≠ a := fun e => by rw [e, hA] at nl; cases nl
  fail "ww"
  refine ⟨a, .dT (kvC m), upd_old nl hA, True.intro, fun od => ?_⟩
  obtain ⟨H1, hH1⟩ : ∃ H1 : Hp, H1 = upd (upd H l (.dT [])) a (.frz od (.dT (kvC m))) := ⟨_, rfl⟩
  rw [← hH1]
  obtain ⟨H0, hH0⟩ : ∃ H0 : Hp, H0 = upd H a (.frz od (.dT (kvC m))) := ⟨_, rfl⟩
  have n0 : H0 l = none := by rw [hH0, upd_ne hla]; exact nl
  have s01 : Same H0 H1 := fun c o hc => by
    have hcl : c ≠ l := fun e => by rw [e, n0] at hc; cases hc
    rw [hH0] at hc
    rw [hH1]
    by_cases e : c = a
    · subst e
      rw [upd_same] at hc ⊢
      exact hc
    · rw [upd_ne e] at hc
      rw [upd_ne e, upd_ne hcl]
      exact hc
  have hl1 : H1 l = some (.dT (kvC [])) := by rw [hH1, upd_ne hla, upd_same]; rfl
  have ha0 : H0 a = some (.frz od (.dT (kvC m))) := by rw [hH0, upd_same]
  have hL0 : SqL K H0 b (ls.map V.int) := by
    rw [hH0]
    rcases hL with h | h
    · have hb : b ≠ a := by
        intro e
        rw [e] at h
        rcases h with h | ⟨_, h⟩ <;> (rw [hA] at h; cases h)
      rcases h with h | ⟨o', h⟩
      · exact .inl (.inl (by rw [upd_ne hb]; exact h))
      · exact .inl (.inr ⟨o', by rw [upd_ne hb]; exact h⟩)
    · exact .inr h
  fail "ww"
  refine ⟨.ref a, rfl, a, od, kvC m, rfl, s01 _ _ ha0, ?_⟩
  refine forI walk_pairsT (fun i σ' H' => ∃ (y3 y4 y5 y6 y7 y8 : Option V), σ' = [some (.ref a), some (.ref b), some (.ref l), y3, y4, y5, y6, y7, y8] ∧ Same H0 H' ∧ H' l = some (.dT (kvC ((m.take i).foldl (fun acc p => (ascN t).foldl (stepC ls p.1 p.2) acc) []))) ∧ ((m.take i).foldl (fun acc p => (ascN t).foldl (stepC ls p.1 p.2) acc) []).length ≤ i * t)
    ⟨none, none, none, none, none, none, rfl, s01, hl1, Nat.zero_le _⟩ (fun i σ' H' _ p => ?_) (fun i x σ' H' H2 hi p y => ?_) (fun σ' H' p => ?_)
  · obtain ⟨_, _, _, _, _, _, _, sk, _⟩ := p
    exact sk _ _ ha0
  · obtain ⟨y3, y4, y5, y6, y7, y8, rfl, sk, hl, hn⟩ := p
    obtain ⟨tt, qq, k, v, ekv, rfl, nt, hq, rfl⟩ := y
    have hi : i < m.length := by rw [← kvC_len]; exact hi
    obtain ⟨ek, ev⟩ : k = m[i].1.map Sum.inl ∧ v = V.int (m[i].2 : Int) := by
      unfold kvC at ekv
      rw [List.getElem?_map, List.getElem?_eq_getElem hi] at ekv
      cases ekv
      exact ⟨rfl, rfl⟩
    subst ek
    subst ev
    rw [kV_map] at hq
    rw [fold_take_succ _ _ _ hi]
    fail "ww"
    have sk2 : Same H0 (upd H' tt (.tup [.ref qq, .int (m[i].2 : Int)])) := sk.trans (same_new nt)
    have hl2 : (upd H' tt (.tup [.ref qq, .int (m[i].2 : Int)])) l = _ := upd_old nt hl
    have hq2 : (upd H' tt (.tup [.ref qq, .int (m[i].2 : Int)])) qq = _ := upd_old nt hq
    generalize upd H' tt (.tup [.ref qq, .int (m[i].2 : Int)]) = H3 at *
    clear sk hl hq nt
    have hkm := hkl m[i] (List.getElem_mem hi)
    obtain ⟨hd, hhd⟩ : ∃ hd : List Int, hd = m[i].1 := ⟨_, rfl⟩
    obtain ⟨wy, hwy⟩ : ∃ wy : Nat, wy = m[i].2 := ⟨_, rfl⟩
    rw [← hhd] at hq2 hkm ⊢
    rw [← hwy] at ⊢
    obtain ⟨acc0, hacc⟩ : ∃ acc0 : Cnt, acc0 = (m.take i).foldl (fun acc p => (ascN t).foldl (stepC ls p.1 p.2) acc) [] := ⟨_, rfl⟩
    rw [← hacc] at hl2 hn ⊢
    clear hhd hwy hacc
    refine r_ixL (sk2.seq hL0) hat ?_
    fail "ww"
    have htn : ((t : Int) + 1 - 1).toNat = t := by omega
    refine ⟨⟨by decide, by decide, by omega, by omega⟩, ?_⟩
    rw [htn]
    refine forF walk_range (fun j σ' H' => ∃ (y5 y6 y7 y8 : Option V), σ' = [some (.ref a), some (.ref b), some (.ref l), some (.ref qq), some (.int (wy : Int)), y5, y6, y7, y8] ∧ Same H0 H' ∧ H' qq = some (.tup (hd.map V.int)) ∧ H' l = some (.dT (kvC (((ascN t).take j).foldl (stepC ls hd wy) acc0))) ∧ (((ascN t).take j).foldl (stepC ls hd wy) acc0).length ≤ i * t + j)
      ⟨y5, y6, y7, y8, rfl, sk2, hq2, hl2, hn⟩ (fun _ _ _ _ _ => trivial) (fun j σ' H' hj p => ?_) (fun σ' H' p => ?_)
    · clear sk2 hq2 hl2 hn y3 y4 y5 y6 y7 y8
      obtain ⟨y5, y6, y7, y8, rfl, sk, hq, hl, hn⟩ := p
      have hja : j < (ascN t).length := by simp [ascN]; exact hj
      have eja : (ascN t)[j] = 1 + (j : Int) := by simp [ascN]
      rw [fold_take_succ _ _ _ hja, eja]
      obtain ⟨acc, hacc⟩ : ∃ acc : Cnt, acc = ((ascN t).take j).foldl (stepC ls hd wy) acc0 := ⟨_, rfl⟩
      rw [← hacc] at hl hn ⊢
      obtain ⟨v, hv⟩ : ∃ v : Int, v = 1 + (j : Int) := ⟨_, rfl⟩
      rw [← hv]
      fail "ww"
      refine ⟨qq, hd.map V.int, rfl, .inl (sqT hq), ?_⟩
      fail "ww"
      have em : hd.map V.int ++ [V.int v] = (hd ++ [v]).map V.int := by rw [List.map_append]; rfl
      refine ⟨size_le (by rw [em, List.length_map, List.length_append]; simp; omega), new_map em (new_ fun p1 G1 n1 s1 h1 => ?_)⟩
      fail "ww"
      refine n_sorted (sq h1) (new_ fun p2 G2 n2 s2 h2 => ?_)
      fail "ww"
      refine n_tupOf (sq h2) (new_ fun p3 G3 n3 s3 h3 => ?_)
      have sx := (s1.trans s2).trans s3
      have skx := sk.trans sx
      have hqx := sx _ _ hq
      have hlx := sx _ _ hl
      clear s1 s2 s3 n1 n2 n3 h1 h2 sk hq hl sx em
      fail "ww"
      refine ⟨qq, hd.map V.int, rfl, .inr (sqT hqx), rfl, by rw [List.all_map]; exact List.all_eq_true.mpr fun _ _ => rfl, ?_⟩
      rw [if_pos rfl, inv_ints]
      fail "ww"
      by_cases hin : v ∈ hd
      · rw [decide_eq_true hin]
        have est : stepC ls hd wy acc v = acc := by unfold stepC; rw [if_pos hin]
        rw [est]
        fail "ww"
        exact ⟨_, _, _, _, rfl, skx, hqx, hlx, by omega⟩
      · rw [decide_eq_false hin]
        have est : stepC ls hd wy acc v = if fitL (srt (hd ++ [v])) ls = true then putC acc (srt (hd ++ [v])) (getC acc (srt (hd ++ [v])) + wy) else acc := by unfold stepC; rw [if_neg hin]
        rw [est]
        fail "ww"
        obtain ⟨zs, hzs⟩ : ∃ zs : List Int, zs = srt (hd ++ [v]) := ⟨_, rfl⟩
        have hzl : zs.length ≤ 1001 := by rw [hzs, srt_len, List.length_append]; simp; omega
        rw [← hzs] at h3 ⊢
        clear hzs est
        have hL3 := skx.seq hL0
        refine r_iZipTL ?_
        fail "ww"
        refine ⟨p3, b, zs.map V.int, ls.map V.int, rfl, sqT h3, hL3, fun D nD => ?_⟩
        refine lc_same (walk_tl (xs := zs.map V.int) (ys := ls.map V.int) (n := (zs.zip ls).length) (by rw [List.length_zip, List.length_map, List.length_map])) (fun j => ((zs.zip ls).take j).map fun p => V.bl (decide (p.1 ≤ p.2))) nD (Same.refl _) rfl (fun Hx sx => ⟨sqT (sx _ _ h3), sx.seq hL3⟩) (fun k x HA HB hk pA y => ?_) (fun G4 s4 hD => ?_)
        · obtain ⟨T1, x1, y1, rfl, nT1, rfl, e1, e2⟩ := y
          have hk2 := hk
          rw [List.length_zip] at hk2
          have e1 : (zs.map V.int)[k]? = some x1 := e1
          have e2 : (ls.map V.int)[k]? = some y1 := e2
          rw [List.getElem?_map, List.getElem?_eq_getElem (by omega)] at e1 e2
          cases e1
          cases e2
          have ez : (zs.zip ls)[k]? = some (zs[k]'(by omega), ls[k]'(by omega)) := by rw [List.getElem?_eq_getElem hk, List.getElem_zip]
          fail "ww"
          refine ⟨rfl, ?_⟩
          fail "ww"
          exact lc_add pA (same_new nT1) nD (by rw [List.take_succ, ez]; simp) (by rw [List.length_map, List.length_take]; exact size_lt (by omega))
        · rw [List.take_of_length_le (Nat.le_refl _)] at hD
          have ebl : ((zs.zip ls).map fun p => V.bl (decide (p.1 ≤ p.2))) = ((zs.zip ls).map fun p => decide (p.1 ≤ p.2)).map V.bl := by rw [List.map_map]; rfl
          have eall : (((zs.zip ls).map fun p => decide (p.1 ≤ p.2)).all id) = fitL zs ls := by unfold fitL; rw [List.all_map]; rfl
          rw [ebl] at hD
          have h34 := s4 _ _ h3
          have sk4 := skx.trans s4
          have hq4 := s4 _ _ hqx
          have hl4 := s4 _ _ hlx
          clear h3 s4 skx hqx hlx ebl hL3
          fail "ww"
          refine r_all (sq hD) ?_
          rw [eall]
          fail "ww"
          by_cases hf : fitL zs ls = true
          · rw [show (if fitL zs ls = true then putC acc zs (getC acc zs + wy) else acc) = putC acc zs (getC acc zs + wy) from if_pos hf, hf, if_pos rfl]
            have hkey : G4 p3 = some (.tup ((zs.map (Sum.inl : Int → Key)).map kV)) := by rw [kV_map]; exact h34
            have hit : i * t ≤ 5000 * 1000 := Nat.mul_le_mul (by omega) ht
            have hql : qq ≠ l := fun e => by rw [e, hl4] at hq4; cases hq4
            have hpl := putC_len acc zs (getC acc zs + wy)
            fail "ww"
            refine ⟨.ref l, rfl, l, rfl, .inr ⟨_, .inl hl4⟩, .ref p3, rfl, valV (kvC acc) (zs.map Sum.inl), DGet.t hl4 hkey, ?_⟩
            rw [kvC_get]
            fail "ww"
            refine ⟨l, _, rfl, DPut.t hl4 hkey (size_lt (by rw [kvC_len]; omega)), ?_⟩
            exact ⟨_, _, _, _, rfl, same_old sk4 n0, upd_to hql hq4, by rw [← kvC_put]; exact upd_same, by omega⟩
          · have hf2 : fitL zs ls = false := by simpa using hf
            rw [show (if fitL zs ls = true then putC acc zs (getC acc zs + wy) else acc) = acc from if_neg hf, hf2, if_neg (by decide)]
            fail "ww"
            exact ⟨_, _, _, _, rfl, sk4, hq4, hl4, by omega⟩
    · obtain ⟨y5, y6, y7, y8, rfl, sk, hq, hl, hn⟩ := p
      fail "ww"
      have e1 : (ascN t).take t = ascN t := List.take_of_length_le (by simp [ascN])
      rw [e1] at hl hn
      exact ⟨_, _, _, _, _, _, rfl, sk, hl, by rw [Nat.succ_mul]; exact hn⟩
  · obtain ⟨y3, y4, y5, y6, y7, y8, rfl, sk, hl, hn⟩ := p
    refine ⟨sk _ _ ha0, ?_⟩
    fail "ww"
    refine q _ l (fun c o hc => ?_) nl ?_
    · by_cases e : c = a
      · subst e
        rw [upd_same, ← hA, hc]
      · rw [upd_ne e]
        exact sk _ _ (by rw [hH0, upd_ne e]; exact hc)
    · rw [upd_ne hla]
      rw [kvC_len, List.take_length] at hl
      exact hl
def sp_next_arrangement (K : PySem.W.Frag) : Sp := fun vs H Q _ => ∃ (a : Addr) (r : List Int), vs = [.ref a] ∧ SqL K H a (r.map V.int) ∧ r.Nodup ∧ 1 ≤ r.length ∧ r.length ≤ 1000 ∧
  ∀ (H' : Hp) (v : V) (o : Option (List Int)), Same H H' → IsNext r o → RowN H H' v o → Q v H'
theorem ok_next_arrangement (T : Txt K mg) : FnG P w K mg base CX0 1 T.next_arrangement_a T.next_arrangement_d ["row"] (sp_next_arrangement K) := by
  refine okG T.next_arrangement_F sc_next_arrangement (fun vs H Q E h => ?_) (fun cdv A ou t H vs Q E hG hr h => ?_)
  · obtain ⟨_, _, rfl, _⟩ := h; rfl
  have nd := sc_next_arrangement.nd
  obtain ⟨a, r, rfl, hA, hnd, h1, h2, q⟩ := h
  refine ⟨_, (pss_cons (sset 1 nd (pe_op op_sub (pe_callB (lenK K) (by rfl) T.m_len PySem.boot_len (pa_cons (pv 0) pa_nil)) pe_int))
      (pss_cons (ps_while PassesOwn.never (PW.pt (pw_and (pt_cmpR op_gt (pv 1) pe_int (nomark _)) (pw_and1 (pt_cmpR op_gt (pe_ix (ix_listK K) (pv 0) (pe_op op_sub (pv 1) pe_int) (fun _ _ => rfl)) (pe_ix (ix_listK K) (pv 0) (pv 1) (fun _ _ => rfl)) (nomark _)))))
        (pss_one (saug 1 nd pe_int ip_sub)))
      (pss_cons (ps_if (pt_cmpR op_eq (pv 1) pe_int (nomark _))
        (pss_one (ps_ret pe_non))
        pss_nil)
      (pss_cons (sset 2 nd (pe_ix (ix_listK K) (pv 0) (pe_op op_sub (pv 1) pe_int) (fun _ _ => rfl)))
      (pss_cons (sset 3 nd (pe_callB (minK K rfl) (by rfl) T.m_min (by decide +kernel) (pa_cons (pe_lc (own := [("value", 5)]) (hc := rfl) (hN := nd) (hi := (pi_listK K (pe_slice (sl_listK K) (pv 0) (po_some (pv 1)) po_none))) (ok := blkOk_by (by rfl)) (hg := fun _ _ _ _ _ => (gset 5 nd)) (ht := (fun _ _ _ _ _ => pts_one (pt_cmpR op_gt (pv 5) (pv 2) (nomark _)))) (he := fun _ _ _ _ _ => (pv 5))) pa_nil)))
      (pss_cons (ps_setLc (i := 4) (hy := rfl) (hyl := rfl) (hsw := sw_true rfl rfl rfl (by decide +kernel)) (own := [("value", 5)]) (hc := rfl) (hN := nd) (hi := (pi_listK K (pe_slice (sl_listK K) (pv 0) (po_some (pe_op op_sub (pv 1) pe_int)) po_none))) (ok := blkOk_by (by rfl)) (hg := fun _ _ _ _ _ => (gset 5 nd)) (ht := (fun _ _ _ _ _ => pts_one (pt_cmpR op_ne (pv 5) (pv 3) (nomark _)))) (he := fun _ _ _ _ _ => (pv 5)))
      (pss_one (ps_ret (pe_lst (StX.pa_star (pe_slice (sl_listK K) (pv 0) po_none (po_some (pe_op op_sub (pv 1) pe_int))) (pa_cons (pv 3) (StX.pa_star (pe_callB (sortedK K) (by rfl) T.m_sorted (by decide +kernel) (pa_cons (pv 4) pa_nil)) pa_nil)))))))))))), ?_⟩
  fail "ww"
  have el : ((List.map V.int r).length : Int) - 1 = ((r.length - 1 : Nat) : Int) := by rw [List.length_map]; omega
  rw [el]
  refine r_while (fun k σ' H' => σ' = [some (.ref a), some (.int (k : Int)), none, none, none, none] ∧ H' = H ∧ tailD r (r.length - 1) = tailD r k ∧ k ≤ r.length - 1) (r.length - 1) ⟨rfl, rfl, rfl, Nat.le_refl _⟩ (fun k σ' H' p => ?_)
  obtain ⟨rfl, rfl, ht, hk⟩ := p
  fail "ww"
  refine r_dec (fun h0 => ?_) (fun h0 => ?_)
  · have hk1 : 1 ≤ k := by omega
    have hkr : k < r.length := by omega
    fail "ww"
    refine r_ixL hA (at_map (ns := r) (j := k - 1) (by omega) (by omega)) ?_
    fail "ww"
    refine r_ixL hA (at_map (ns := r) (j := k) rfl (by omega)) ?_
    fail "ww"
    have ek : ∃ j, k = j + 1 := ⟨k - 1, by omega⟩
    obtain ⟨j, rfl⟩ := ek
    refine r_dec (fun h => ?_) (fun h => ?_)
    · refine r_turn ?_
      fail "ww"
      refine ⟨j, Nat.lt_succ_self j, by rw [show (((j + 1 : Nat) : Int) - 1) = ((j : Nat) : Int) by omega]; rfl, rfl, ?_, by omega⟩
      rw [ht, tailD, if_pos]
      rw [← My.getD_at hkr, ← My.getD_at (by omega)]
      exact h
    · have htt : tailD r (r.length - 1) = j + 1 := by
        rw [ht, tailD, if_neg]
        rw [← My.getD_at hkr, ← My.getD_at (by omega)]
        exact h
      have hne : tailD r (r.length - 1) ≠ 0 := by omega
      have e0 : (((j + 1 : Nat) : Int) - 1) = ((j : Nat) : Int) := by omega
      fail "ww"
      refine r_itDF (by omega) ?_
      fail "ww"
      refine r_ixL hA (at_map (ns := r) (j := j) (by omega) (by omega)) ?_
      fail "ww"
      refine n_slF hA rfl (new_ fun p1 H1 n1 s1 g1 => ?_)
      fail "ww"
      intro D nD
      refine lc_sameAI (walk_list (xs := (r.drop (j + 1)).map V.int)) (fun i => (((r.drop (j + 1)).take i).filter (fun y => decide (r[j] < y))).map V.int) nD (Same.refl _) rfl (fun H s => s.seq (sq g1)) (fun i H hi p => ?_) (fun H2 s2 hD => ?_)
      · fail "ww"
        refine ⟨rfl, ?_⟩
        fail "ww"
        refine r_dec (fun h => ?_) (fun h => ?_)
        · fail "ww"
          exact lc_add p (Same.refl _) nD (acc_filtT hi (decide_eq_true h)) (filt_len (by rw [List.length_drop]; omega))
        · exact lc_skip p (Same.refl _) (acc_filtF hi (decide_eq_false h))
      · rw [List.take_of_length_le (Nat.le_refl _)] at hD
        obtain ⟨v0, hv0, hg0⟩ := next_ex hnd hne
        rw [htt] at hv0 hg0
        have ej : r.getD (j + 1 - 1) 0 = r[j] := (My.getD_at (by omega)).symm
        rw [ej] at hg0
        fail "ww"
        refine ⟨D, _, rfl, sq hD, List.length_pos_of_mem (List.mem_filter.mpr ⟨hv0, decide_eq_true hg0⟩), fun m hm hmin => ?_⟩
        have hm' := List.mem_filter.mp hm
        have hmg : r[j] < m := of_decide_eq_true hm'.2
        have hnx : IsNext r (some (nextR r (j + 1) m)) := by
          have := next_some (v := m) hnd hne (by rw [htt]; exact hm'.1) (by rw [htt, ej]; exact hmg) (by
            rw [htt, ej]
            exact fun y hy hy2 => hmin y (List.mem_filter.mpr ⟨hy, decide_eq_true hy2⟩))
          rwa [htt] at this
        have s12 := s1.trans s2
        clear hmin hm hm' hmg hv0 hg0 hD nD
        fail "ww"
        have hA2 := s12.seq hA
        refine n_slF hA2 (a := j) (by omega) (new_ fun p3 H3 n3 s3 g3 => ?_)
        fail "ww"
        intro D nD
        refine lc_sameAI (walk_list (xs := (r.drop j).map V.int)) (fun i => (((r.drop j).take i).filter (fun y => !decide (y = m))).map V.int) nD (Same.refl _) rfl (fun H s => s.seq (sq g3)) (fun i H hi p => ?_) (fun H4 s4 hD => ?_)
        · fail "ww"
          refine ⟨rfl, ?_⟩
          fail "ww"
          refine r_ndec (fun h => ?_) (fun h => ?_)
          · fail "ww"
            exact lc_add p (Same.refl _) nD (acc_filtT hi (by show (!decide (_ = m)) = true; rw [decide_eq_false h]; rfl)) (filt_len (by rw [List.length_drop]; omega))
          · exact lc_skip p (Same.refl _) (acc_filtF hi (by show (!decide (_ = m)) = false; rw [decide_eq_true h]; rfl))
        · rw [List.take_of_length_le (Nat.le_refl _)] at hD
          have s14 := (s12.trans s3).trans s4
          have hA4 := s14.seq hA
          fail "ww"
          refine n_slT hA4 (a := j) (by omega) (new_ fun p5 H5 n5 s5 g5 => ?_)
          fail "ww"
          refine ⟨p5, _, rfl, .inr (sq g5), ?_⟩
          fail "ww"
          refine n_sorted (sq (s5 _ _ hD)) (new_ fun p6 H6 n6 s6 g6 => ?_)
          fail "ww"
          refine ⟨p6, _, rfl, .inr (sq g6), ?_⟩
          fail "ww"
          have e : (r.take j).map V.int ++ (V.int m :: ((srt ((r.drop j).filter fun y => !decide (y = m))).map V.int ++ [])) = (nextR r (j + 1) m).map V.int := by
            unfold nextR
            rw [List.append_nil, List.map_append, List.map_cons]
            rfl
          have hz : (nextR r (j + 1) m).length ≤ 1000 := by
            obtain ⟨g1, _⟩ := hnx
            rw [g1.length_eq]; exact h2
          refine ⟨by rw [e, List.length_map]; exact size_le (by omega), new_map e (new_ fun p7 H7 n7 s7 g7 => ?_)⟩
          exact q _ _ _ (((s14.trans s5).trans s6).trans s7) hnx ⟨p7, rfl, ((s14.trans s5).trans s6).free n7, g7⟩
  · obtain rfl : k = 0 := by omega
    fail "ww"
    exact q _ _ none (Same.refl _) (next_none ht) rfl
def sp_law_bag (K : PySem.W.Frag) : Sp := fun vs H Q _ => ∃ (a : Addr) (ns : List Int), vs = [.ref a] ∧ SqL K H a (ns.map V.int) ∧ ns.length ≤ 63 ∧ ∀ H' r g, Same H H' → H r = none → H g = none → Bag H' r g 0 → Q (.ref r) H'
theorem ok_law_bag (T : Txt K mg) : FnG P w K mg base CX0 1 T.law_bag_a T.law_bag_d ["script"] (sp_law_bag K) := by
  refine okG T.law_bag_F sc_law_bag (fun vs H Q E h => ?_) (fun cdv A ou t H vs Q E hG hr h => ?_)
  · obtain ⟨_, _, rfl, _⟩ := h; rfl
  have nd := sc_law_bag.nd
  obtain ⟨a, ns, rfl, hS, hlen, q⟩ := h
  refine ⟨_, (pss_cons (ps_par (i := 1) (j := 2) (by rfl) nd rfl rfl (by decide) rfl rfl (pa_cons pe_int (pa_cons (pe_lst pa_nil) pa_nil)) (by rfl))
      (pss_cons (ps_for PassesOwn.never rfl (pi_listK K (pv 0)) (gset 3 nd)
        (pss_cons (sset 1 nd (pe_op op_mod (pe_op op_add (pe_op op_mulW (pv 1) pe_int) (pv 3)) pe_int))
      (pss_one (ps_if (pt_cmpR op_ge (pe_callB call_abs (by rfl) T.m_abs (by decide +kernel) (pa_cons (pv 3) pa_nil)) (pe_op op_powW pe_int pe_int) (nomark _))
        (pss_one (ps_expr (pe_bmK K PySem.F.plainAttrs_list PySem.F.slot_list_append PySem.F.type_list_append mt_append (pv 2) (pa_cons (pe_callB call_abs (by rfl) T.m_abs (by decide +kernel) (pa_cons (pv 3) pa_nil)) pa_nil))))
        pss_nil))))
      (pss_one (ps_ret (pe_disp (pps_cons pe_str (pv 2) (pps_cons pe_str pe_int (pps_cons pe_str pe_int (pps_cons pe_str (pv 1) pps_nil)))) (by rfl) (by rfl) (fun z => by cases z) (by decide)))))), ?_⟩
  fail "g"
  intro g ng
  have s1 := same_new (o := .lst []) ng
  have hS1 := s1.seq hS
  fail "g"
  refine forAI (walk_list (xs := ns.map V.int)) (fun i σ' H' => ∃ (b : Int) (gs : List Int) (y3 : Option V), σ' = [some (.ref a), some (.int b), some (.ref g), y3] ∧ Same H H' ∧ H' g = some (.lst (gs.map V.int)) ∧ (∀ x ∈ gs, 0 ≤ x) ∧ gs.length ≤ i ∧ 0 ≤ b ∧ b < 2 ^ 61)
    ⟨11, [], none, rfl, s1, upd_same, (fun x hx => by cases hx), Nat.le_refl _, by decide, by decide⟩ (fun i σ' H' _ p => ?_) (fun i σ' H' hi p' => ?_) (fun σ' H' p' => ?_)
  · obtain ⟨_, _, _, _, s, _⟩ := p; exact s.seq hS
  · obtain ⟨b, gs, y3, rfl, s, hG', hpos, hgl, hb0, hb1⟩ := p'
    fail "g"
    refine r_I (wide_mul (a := 61) (b := 20) (by omega) (by decide) (by decide) (by decide) (by decide)) ?_
    fail "g"
    generalize hb' : (b * 1000003 + ns[i]) % 2305843009213693951 = b'
    have hb0' : 0 ≤ b' := by omega
    have hb1' : b' < 2 ^ 61 := by omega
    refine r_dec (fun h => ?_) (fun h => ?_)
    · have hx : 0 ≤ (if ns[i] < 0 then -ns[i] else ns[i]) := by split <;> omega
      fail "g"
      refine r_append hG' (by rw [List.length_map]; exact size_lt (by omega)) ?_
      rw [map_snoc]
      fail "g"
      refine ⟨b', gs ++ [if ns[i] < 0 then -ns[i] else ns[i]], _, rfl, same_old s ng, upd_same, fun y hy => ?_, by rw [List.length_append]; show _ + 1 ≤ _; omega, hb0', hb1'⟩
      rcases List.mem_append.mp hy with z | z
      · exact hpos y z
      · rw [List.mem_singleton.mp z]; exact hx
    · fail "g"
      exact ⟨b', gs, _, rfl, s, hG', hpos, by omega, hb0', hb1'⟩
  · obtain ⟨b, gs, y3, rfl, s, hG', hpos, hgl, hb0, hb1⟩ := p'
    rw [List.length_map] at hgl
    fail "g"
    intro r nr
    fail "g"
    refine ⟨upd_same, [(kk "great", .ref g), (kk "left", .int 0), (kk "turn", .int 0), (kk "blend", .int b)], rfl, by show 4 ≤ 15; decide, ?_⟩
    have hr0 := s.free nr
    refine q _ r g (same_old (same_old s hr0) hr0) hr0 ng ⟨gs, 0, 0, b, upd_same.trans rfl, upd_to (ne_of_none hG' nr) (upd_old nr hG'), hpos, by omega, by decide, by decide, by decide, hb0, hb1⟩
def sp_law_draw (K : PySem.W.Frag) : Sp := fun vs H Q _ => ∃ (r g : Addr) (many : Int) (m : Nat), vs = [.ref r, .int many] ∧ Bag H r g m ∧ m < 2 ^ 60 ∧ 0 < many ∧ many < 2 ^ 200 ∧
  ∀ H' d, 0 ≤ d → d < many → Sy r g H H' → Bag H' r g (m + 1) → Q (.int d) H'
theorem ok_law_draw (T : Txt K mg) : FnG P w K mg base CX0 1 T.law_draw_a T.law_draw_d ["bag", "many"] (sp_law_draw K) := by
  refine okG T.law_draw_F sc_law_draw (fun vs H Q E h => ?_) (fun cdv A ou t H vs Q E hG hr h => ?_)
  · obtain ⟨_, _, _, _, rfl, _⟩ := h; rfl
  have nd := sc_law_draw.nd
  obtain ⟨r, g, many, m, rfl, ⟨gs, l, t, b, hr', hg, hpos, hgl, hl0, ht0, htm, hb0, hb1⟩, hm, hm0, hm1, q⟩ := h
  refine ⟨_, (C8.pss_cut (ps_if (PW.pt (pw_and (pt_cmpR op_lt (pe_dget (hu_of hr) (pv 0) pe_str (fun _ _ => rfl)) (pv 1) (nomark _)) (pw_and1 (pt_cmpR op_gt (pe_callB (lenK K) (by rfl) T.m_len PySem.boot_len (pa_cons (pe_dget (hu_of hr) (pv 0) pe_str (fun _ _ => rfl)) pa_nil)) pe_int (nomark _)))))
        (pss_one (ps_dput (hu_of hr) (pv 0) pe_str (pe_bmK K PySem.F.plainAttrs_list PySem.F.slot_list_pop PySem.F.type_list_pop mt_popAt (pe_dget (hu_of hr) (pv 0) pe_str (fun _ _ => rfl)) (pa_cons pe_int pa_nil)) rfl))
        pss_nil)
      (pss_cons (ps_if (pt_cmpR op_ge (pe_dget (hu_of hr) (pv 0) pe_str (fun _ _ => rfl)) (pv 1) (nomark _))
        (pss_cons (sset 2 nd (pe_op op_mod (pe_dget (hu_of hr) (pv 0) pe_str (fun _ _ => rfl)) (pv 1)))
      (pss_cons (ps_dput (hu_of hr) (pv 0) pe_str (pe_op op_fdivW (pe_dget (hu_of hr) (pv 0) pe_str (fun _ _ => rfl)) (pv 1)) rfl)
      (pss_one (ps_ret (pv 2)))))
        pss_nil)
      (pss_cons (ps_daug (hu_of hr) (pv 0) pe_str pe_int in_add (fun _ _ _ => rfl))
      (pss_cons (sset 3 nd (pe_dget (hu_of hr) (pv 0) pe_str (fun _ _ => rfl)))
      (pss_cons (sset 4 nd (pe_op op_add (pe_op op_mulW (pe_op op_add (pe_dget (hu_of hr) (pv 0) pe_str (fun _ _ => rfl)) (pe_op op_mulW pe_int (pv 3))) (pe_op op_powW (pe_op op_add (pv 3) pe_int) pe_int)) (pe_op op_mulW pe_int (pv 3))))
      (pss_one (ps_ret (pe_op op_mod (pe_op op_fdivW (pe_op op_mod (pe_op op_powW (pe_op op_mod (pv 4) pe_int) pe_int) (pe_op op_add (pe_op op_powW pe_int pe_int) pe_int)) pe_int) (pv 1))))))))), ?_⟩
  have hrg : r ≠ g := ne_of hr' hg (by intro z; cases z)
  fail "g"
  refine r_cut (fun σ' H' => ∃ (gs : List Int) (l : Int), σ' = [some (.ref r), some (.int many), none, none, none] ∧ Sy r g H H' ∧ H' r = some (.dK (bagK g l t b)) ∧ H' g = some (.lst (gs.map V.int)) ∧ (∀ x ∈ gs, 0 ≤ x) ∧ gs.length ≤ 63 ∧ 0 ≤ l) ?_ (fun σ' H' p => ?_)
  · fail "g"
    refine ⟨r, _, rfl, get_left hr', ?_⟩
    fail "g"
    refine r_dec (fun h1 => ?_) (fun h1 => ?_)
    · fail "g"
      refine ⟨r, _, rfl, get_great hr', ?_⟩
      fail "g"
      rw [List.length_map]
      refine r_dec (fun h2 => ?_) (fun h2 => ?_)
      · fail "g"
        have hp0 : 0 < gs.length := by omega
        refine ⟨r, _, rfl, get_great hr', ?_⟩
        fail "g"
        refine r_popAt (k := 0) hg rfl (y := .int gs[0]) (by simp [hp0]) (by omega) ?_
        rw [erase_map]
        have hr2 : (upd H g (.lst ((gs.eraseIdx 0).map V.int))) r = _ := upd_to hrg hr'
        fail "g"
        refine ⟨r, _, rfl, put_left hr2 _, ?_⟩
        fail "g"
        exact ⟨gs.eraseIdx 0, gs[0], rfl, Sy.refl.putg.putr, upd_same, upd_to (Ne.symm hrg) upd_same, (fun x hx => hpos x (List.mem_of_mem_eraseIdx hx)), by rw [List.length_eraseIdx]; split <;> omega, hpos _ (List.getElem_mem hp0)⟩
      · fail "g"
        exact ⟨gs, l, rfl, Sy.refl, hr', hg, hpos, hgl, hl0⟩
    · fail "g"
      exact ⟨gs, l, rfl, Sy.refl, hr', hg, hpos, hgl, hl0⟩
  · clear hr' hg hpos hgl hl0
    obtain ⟨gs, l, rfl, s, hr', hg, hpos, hgl, hl0⟩ := p
    fail "g"
    refine ⟨r, _, rfl, get_left hr', ?_⟩
    fail "g"
    refine r_dec (fun h1 => ?_) (fun h1 => ?_)
    · fail "g"
      refine ⟨r, _, rfl, get_left hr', ?_⟩
      fail "g"
      refine ⟨r, _, rfl, get_left hr', ?_⟩
      fail "g"
      refine r_I (wide_div hm0 (b := 200) (by omega) (by decide) (by decide)) ?_
      fail "g"
      refine ⟨r, _, rfl, put_left hr' _, ?_⟩
      fail "g"
      exact q _ _ (Int.emod_nonneg _ (by omega)) (Int.emod_lt_of_pos _ hm0) s.putr ⟨gs, _, t, b, upd_same, upd_to (Ne.symm hrg) hg, hpos, hgl, Int.ediv_nonneg hl0 (by omega), ht0, by omega, hb0, hb1⟩
    · fail "g"
      refine ⟨r, _, rfl, get_turn hr', ?_⟩
      fail "g"
      refine ⟨_, _, rfl, rfl, ?_⟩
      refine ⟨_, put_turn hr' _, ?_⟩
      have hg' : (upd H' r (.dK (bagK g l (t + 1) b))) g = _ := upd_to (Ne.symm hrg) hg
      have hr2 := upd_same (H := H') (a := r) (o := .dK (bagK g l (t + 1) b))
      have s2 : Sy r g H (upd H' r (.dK (bagK g l (t + 1) b))) := s.putr
      generalize upd H' r (.dK (bagK g l (t + 1) b)) = H2 at hg' hr2 s2 ⊢
      fail "g"
      refine ⟨r, _, rfl, get_turn hr2, ?_⟩
      fail "g"
      refine ⟨r, _, rfl, get_blend hr2, ?_⟩
      fail "g"
      refine r_I (wide_mul (a := 5) (b := 62) (by decide) (by omega) (by decide) (by decide) (by decide)) ?_
      fail "g"
      refine r_I (powW (n := 62) (by omega) (by decide) (by decide) (by decide)) ?_
      fail "g"
      have hT : ((t + 1 + 29) ^ Int.toNat 2).natAbs < 2 ^ 124 := by
        rw [Int.natAbs_pow]; exact Nat.lt_of_lt_of_le (Nat.pow_lt_pow_left (show (t + 1 + 29).natAbs < 2 ^ 62 by omega) (by decide)) (by decide)
      refine r_I (wide_mul (a := 70) (b := 124) (by omega) hT (by decide) (by decide) (by decide)) ?_
      fail "g"
      refine r_I (wide_mul (a := 13) (b := 62) (by decide) (by omega) (by decide) (by decide) (by decide)) ?_
      fail "g"
      refine r_I (powW (n := 61) (by omega) (by decide) (by decide) (by decide)) ?_
      fail "g"
      refine r_I ⟨by decide, by decide +kernel⟩ ?_
      fail "g"
      exact q _ _ (Int.emod_nonneg _ (by omega)) (Int.emod_lt_of_pos _ hm0) s2 ⟨gs, _, _, b, hr2, hg', hpos, hgl, hl0, by omega, by omega, hb0, hb1⟩
def spe_law_kind (K : PySem.W.Frag) (T : Txt K mg) : Addr → Value → Option Addr → Sp := fun a cls d vs H Q _ => ∃ (D dd : Addr) (j : Nat) (y : V), vs = [.ref a] ∧ cls = .ref D ∧ d = some dd ∧ H dd = some (.xd [(("value" : Str), y)]) ∧ Kd3 K T D j ∧
  ∀ (H' : Hp), Same H H' → Q (.str (wordsD.getD j "")) H'
theorem okE_law_kind (T : Txt K mg) : FnE P w K mg base 1 T.law_kind_a T.law_kind_d ["e"] (spe_law_kind K T) := by
  refine okE T.law_kind_F sc_law_kind (fun a cls d vs H Q E h => ?_) (fun cdv A ou t H vs Q E q cls d hG hr cg h => ?_)
  · obtain ⟨_, _, _, _, rfl, _⟩ := h; rfl
  have nd := sc_law_kind.nd
  obtain ⟨D, dd, j, y, rfl, rfl, rfl, hdd, kd, k⟩ := h
  refine ⟨_, (pss_cons (sset 1 nd (pe_lst (pa_cons (pe_callB (call_isX cg) (by rfl) T.m_isinstance (by decide +kernel) (pa_cons (pv 0) (pa_cons (pe_glob (v := .ref T.InvalidSize_a) (by rfl) T.InvalidSize_g rfl) pa_nil))) (pa_cons (pe_callB (call_isX cg) (by rfl) T.m_isinstance (by decide +kernel) (pa_cons (pv 0) (pa_cons (pe_glob (v := .ref T.InvalidCommand_a) (by rfl) T.InvalidCommand_g rfl) pa_nil))) (pa_cons (pe_callB (call_isX cg) (by rfl) T.m_isinstance (by decide +kernel) (pa_cons (pv 0) (pa_cons (pe_glob (v := .ref T.InvalidNumber_a) (by rfl) T.InvalidNumber_g rfl) pa_nil))) pa_nil)))))
      (pss_cons (sset 2 nd (pe_callB (call_isXT cg) (by rfl) T.m_isinstance (by decide +kernel) (pa_cons (pv 0) (pa_cons (pe_tup (pa_cons (pe_glob (v := .ref T.InvalidRow_a) (by rfl) T.InvalidRow_g rfl) (pa_cons (pe_glob (v := .ref T.NothingToUndo_a) (by rfl) T.NothingToUndo_g rfl) (pa_cons (pe_glob (v := .ref T.UnequalSizes_a) (by rfl) T.UnequalSizes_g rfl) (pa_cons (pe_glob (v := .ref T.Unreadable_a) (by rfl) T.Unreadable_g rfl) pa_nil))))) pa_nil))))
      (pss_cons (ps_if (PW.pt (pw_or (pt_cmpR op_ne (pe_bmK K PySem.F.plainAttrs_list PySem.F.slot_list_count PySem.F.type_list_count (lcountF K) (pv 1) (pa_cons pe_bl pa_nil)) pe_int (nomark _)) (pw_or (pt_val (pv 2)) (pw_or1 (pt_not (pt_val (pe_callB (call_isX cg) (by rfl) T.m_isinstance (by decide +kernel) (pa_cons (pv 0) (pa_cons (pe_bltn (v := .ty "ValueError") (u := .type "ValueError") (by rfl) T.m_ValueError (by decide +kernel) rfl) pa_nil)))))))))
        (pss_one (ps_ret pe_str))
        pss_nil)
      (pss_one (ps_ret (pe_ix (ix_tupK K) (pe_tup (pa_cons pe_str (pa_cons pe_str (pa_cons pe_str pa_nil)))) (pe_bmK K PySem.F.plainAttrs_list PySem.F.slot_list_index PySem.F.type_list_index (lindexK K) (pv 1) (pa_cons pe_bl pa_nil)) (fun _ _ => rfl))))))), ?_⟩
  fail "ww"
  refine r_isR hdd kd.x kd.k0 ?_
  fail "ww"
  refine r_isR hdd kd.x kd.k1 ?_
  fail "ww"
  refine r_isR hdd kd.x kd.k2 ?_
  fail "ww"
  refine new_ fun t0 H1 n1 s1 g0 => ?_
  fail "ww"
  refine new_ fun t1 H2 n2 s2 g2 => ?_
  fail "ww"
  have s12 := s1.trans s2
  refine r_isXT (s12 _ _ hdd) kd.x g2 (.cons (.own _) (.cons (.own _) (.cons (.own _) (.cons (.own _) .nil)))) (kit4 kd) ?_
  fail "ww"
  have g02 := s2 _ _ g0
  have hj := kd.lt
  have hd2 := s12 _ _ hdd
  have hc : ([V.bl (decide (j = 0)), V.bl (decide (j = 1)), V.bl (decide (j = 2))].countP fun z => eqV z (.bl true)) = 1 := by
    have : j = 0 ∨ j = 1 ∨ j = 2 := by omega
    rcases this with e | e | e <;> subst e <;> decide
  refine ⟨ty_list (sq g02), ?_⟩
  fail "ww"
  refine ⟨t0, _, .bl true, rfl, rfl, sq g02, rfl, rfl, ?_⟩
  rw [hc]
  fail "ww"
  refine r_itNF rfl ?_
  fail "ww"
  refine r_isT hd2 kd.x kd.v ?_
  fail "ww"
  refine new_ fun t2 H3 n3 s3 g3 => ?_
  fail "ww"
  have g03 := s3 _ _ g02
  refine ⟨t0, _, .bl true, j, .bl true, rfl, rfl, sq g03, rfl, rfl, ?_, rfl, ?_, ?_⟩
  · have : j = 0 ∨ j = 1 ∨ j = 2 := by omega
    rcases this with e | e | e <;> subst e <;> rfl
  · intro m z hm hz
    have : (j = 1 ∧ m = 0) ∨ (j = 2 ∧ m = 0) ∨ (j = 2 ∧ m = 1) := by omega
    rcases this with ⟨e, e2⟩ | ⟨e, e2⟩ | ⟨e, e2⟩ <;> subst e <;> subst e2 <;> cases hz <;> rfl
  · refine r_ixT (sqT g3) (show atI _ _ = some (V.str (wordsD.getD j "")) from ?_) ?_
    · have : j = 0 ∨ j = 1 ∨ j = 2 := by omega
      rcases this with e | e | e <;> subst e <;> rfl
    · fail "ww"
      exact k _ (s12.trans s3)
def sp_law_commands (K : PySem.W.Frag) : Sp := fun vs H Q _ => ∃ (r g : Addr) (wide most m : Nat), vs = [.ref r, .int wide, .int most] ∧ Bag H r g m ∧ 1 ≤ wide ∧ wide ≤ 1000 ∧ most ≤ 10000 ∧ m < 2 ^ 40 ∧
  ∀ (H' : Hp) (p : Addr) (ts : List Addr) (cs : List Cmd), Sy r g H H' → H p = none → Bag H' r g (m + 1 + 5 * most) → H' p = some (.lst (ts.map V.ref)) → Cm H' ts cs → Fits wide cs → cs.length ≤ most → Q (.ref p) H'
theorem ok_law_commands (T : Txt K mg) : FnG P w K mg base CX0 2 T.law_commands_a T.law_commands_d ["bag", "many", "most"] (sp_law_commands K) := by
  refine okG T.law_commands_F sc_law_commands (fun vs H Q E h => ?_) (fun cdv A ou t H vs Q E hG hr h => ?_)
  · obtain ⟨_, _, _, _, _, rfl, _⟩ := h; rfl
  have nd := sc_law_commands.nd
  obtain ⟨r, g, wide, most, m, rfl, hR, hw1, hw, hmost, hm, q⟩ := h
  refine ⟨_, (pss_cons (sset 3 nd (pe_lst pa_nil))
      (pss_cons (ps_for PassesOwn.never rfl (pi_range1 (by rfl) T.m_range (pa_cons (pe_callG (ok_law_draw T) hG (hr.mono (by decide)) (by rfl) T.law_draw_g T.law_draw_F.kp T.law_draw_b .nil pass0 (pa_cons (pv 0) (pa_cons (pe_op op_add (pv 2) pe_int) pa_nil))) pa_nil)) (gset 4 nd)
        (pss_cons (sset 5 nd (pe_op op_add pe_int (pe_callG (ok_law_draw T) hG (hr.mono (by decide)) (by rfl) T.law_draw_g T.law_draw_F.kp T.law_draw_b .nil pass0 (pa_cons (pv 0) (pa_cons (pv 1) pa_nil)))))
      (pss_cons (sset 6 nd (pe_callG (ok_law_draw T) hG (hr.mono (by decide)) (by rfl) T.law_draw_g T.law_draw_F.kp T.law_draw_b .nil pass0 (pa_cons (pv 0) (pa_cons (pe_ix (ix_tupK K) (pe_tup (pa_cons pe_int (pa_cons pe_int (pa_cons (pv 1) pa_nil)))) (pe_callG (ok_law_draw T) hG (hr.mono (by decide)) (by rfl) T.law_draw_g T.law_draw_F.kp T.law_draw_b .nil pass0 (pa_cons (pv 0) (pa_cons pe_int pa_nil))) (fun _ _ => rfl)) pa_nil))))
      (pss_cons (ps_expr (pe_bmK K PySem.F.plainAttrs_list PySem.F.slot_list_append PySem.F.type_list_append mt_append (pv 3) (pa_cons (pe_tup (pa_cons (pv 5) (pa_cons (pe_callB (call_min2 rfl) (by rfl) T.m_min (by decide +kernel) (pa_cons (pv 1) (pa_cons (pe_op op_add (pv 5) (pv 6)) pa_nil))) pa_nil))) pa_nil)))
      (pss_one (ps_if (pt_cmpR op_eq (pe_callG (ok_law_draw T) hG (hr.mono (by decide)) (by rfl) T.law_draw_g T.law_draw_F.kp T.law_draw_b .nil pass0 (pa_cons (pv 0) (pa_cons pe_int pa_nil))) pe_int (nomark _))
        (pss_one (ps_expr (pe_bmK K PySem.F.plainAttrs_list PySem.F.slot_list_append PySem.F.type_list_append mt_append (pv 3) (pa_cons (pe_ix (ix_listK K) (pv 3) (pe_callG (ok_law_draw T) hG (hr.mono (by decide)) (by rfl) T.law_draw_g T.law_draw_F.kp T.law_draw_b .nil pass0 (pa_cons (pv 0) (pa_cons (pe_callB (lenK K) (by rfl) T.m_len PySem.boot_len (pa_cons (pv 3) pa_nil)) pa_nil))) (fun _ _ => rfl)) pa_nil))))
        pss_nil))))))
      (pss_one (ps_ret (pe_slice (sl_listK K) (pv 3) po_none (po_some (pv 2))))))), ?_⟩
  fail "g"
  intro p np
  fail "g"
  have hpr := hR.ner np
  have hR1 := hR.same (same_new (o := .lst []) np)
  have s1 := Sy.new (r := r) (g := g) (o := .lst []) np
  refine ⟨r, g, _, m, rfl, hR1, by omega, by omega, by omega, fun H2 n0 hn0 hn1 s2 hR2 => ?_⟩
  obtain ⟨n, rfl⟩ := Int.eq_ofNat_of_zero_le hn0
  have hP2 := s2 _ _ hpr.1 hpr.2 upd_same
  have s3 := s1.trans s2
  fail "g"
  refine ⟨by omega, by omega, ?_⟩
  refine forF walk_range (fun i σ' H' => ∃ (ts : List Addr) (cs : List Cmd) (y4 y5 y6 : Option V), σ' = [some (.ref r), some (.int wide), some (.int most), some (.ref p), y4, y5, y6] ∧ cs.length ≤ 2 * i ∧ H' p = some (.lst (ts.map V.ref)) ∧ Cm H' ts cs ∧ Fits wide cs ∧ Sy r g H H' ∧ Bag H' r g (m + 1 + 5 * i))
    ⟨[], [], none, none, none, rfl, Nat.zero_le _, hP2, Cm.nil, (fun c hc => by cases hc), s3, hR2⟩ (fun _ _ _ _ _ => trivial) (fun i σ' H' hi p' => ?_) (fun σ' H' p' => ?_)
  · obtain ⟨ts, cs, y4, y5, y6, rfl, hlen, hP, hC, hF, sH, hRi⟩ := p'
    fail "g"
    refine ⟨r, g, wide, _, rfl, hRi, by omega, by omega, by omega, fun H3 e0 he0 he1 s4 hR3 => ?_⟩
    obtain ⟨e, rfl⟩ := Int.eq_ofNat_of_zero_le he0
    have hP3 := s4 _ _ hpr.1 hpr.2 hP
    have hC3 := hC.sy hRi s4
    have sH3 := sH.trans s4
    fail "g"
    intro lx nx
    have sx := same_new (o := .tup [.int 2, .int 4, .int wide]) nx
    have hlr := hR3.ner nx
    have hR4 := hR3.same sx
    have hP4 := sx _ _ hP3
    have hC4 := hC3.same sx
    have sH4 := sH3.same sx
    have hlx := upd_same (H := H3) (a := lx) (o := .tup [.int 2, .int 4, .int wide])
    generalize upd H3 lx (.tup [.int 2, .int 4, .int wide]) = H4 at sx hR4 hP4 hC4 sH4 hlx ⊢
    fail "g"
    refine ⟨r, g, _, _, rfl, hR4, by omega, by decide, by decide, fun H6 d hd0 hd1 s6 hR6 => ?_⟩
    have hlx6 := s6 _ _ hlr.1 hlr.2 hlx
    obtain ⟨L, hat, hL1, hL2⟩ : ∃ L : Nat, atI [V.int 2, V.int 4, V.int wide] d = some (.int L) ∧ 1 ≤ L ∧ L ≤ 1000 := by
      have : d = 0 ∨ d = 1 ∨ d = 2 := by omega
      rcases this with h | h | h <;> subst h
      · exact ⟨2, rfl, by omega, by omega⟩
      · exact ⟨4, rfl, by omega, by omega⟩
      · exact ⟨wide, rfl, by omega, by omega⟩
    have hP6 := s6 _ _ hpr.1 hpr.2 hP4
    have hC6 := hC4.sy hR4 s6
    have sH6 := sH4.trans s6
    clear hP hC hP3 hC3 hP4 hC4 sH sH3 sH4
    fail "g"
    refine r_ixT (sqT hlx6) hat ?_
    fail "g"
    refine ⟨r, g, _, _, rfl, hR6, by omega, by omega, by omega, fun H7 f0 hf0 hf1 s7 hR7 => ?_⟩
    obtain ⟨f, rfl⟩ := Int.eq_ofNat_of_zero_le hf0
    have hP7 := s7 _ _ hpr.1 hpr.2 hP6
    have hC7 := hC6.sy hR6 s7
    have sH7 := sH6.trans s7
    obtain ⟨z, hz, hz1, hz2⟩ : ∃ z : Nat, (if 1 + (e : Int) + (f : Int) < (wide : Int) then 1 + (e : Int) + (f : Int) else (wide : Int)) = (z : Int) ∧ 1 + e ≤ z ∧ z ≤ wide := by
      split
      · exact ⟨1 + e + f, by omega, by omega, by omega⟩
      · exact ⟨wide, rfl, by omega, by omega⟩
    fail "g"
    rw [hz]
    intro t nt
    have st := same_new (o := .tup [.int (1 + (e : Int)), .int (z : Int)]) nt
    have hP8 := st _ _ hP7
    have hC8 := hC7.same st
    have sH8 := sH7.same st
    have hR8 := hR7.same st
    have ht8 := upd_same (H := H7) (a := t) (o := .tup [.int (1 + (e : Int)), .int (z : Int)])
    generalize upd H7 t (.tup [.int (1 + (e : Int)), .int (z : Int)]) = H8 at st hP8 hC8 sH8 hR8 ht8 ⊢
    clear hP6 hC6 sH6 hP7 hC7 sH7
    fail "g"
    refine r_append hP8 (by rw [List.length_map, hC8.len]; exact size_lt (by omega)) ?_
    have hP9 : (upd H8 p (.lst (ts.map V.ref ++ [.ref t]))) p = some (.lst ((ts ++ [t]).map V.ref)) := by rw [upd_same, List.map_append]; rfl
    have hC9 : Cm (upd H8 p (.lst (ts.map V.ref ++ [.ref t]))) (ts ++ [t]) (cs ++ [(1 + e, z)]) := (hC8.snoc (c := (1 + e, z)) (by rw [ht8, show ((1 + e : Nat) : Int) = 1 + (e : Int) by omega])).put hP8
    have hF9 : Fits wide (cs ++ [(1 + e, z)]) := fun c' hc' => by
      rcases List.mem_append.mp hc' with h | h
      · exact hF c' h
      · rw [List.mem_singleton.mp h]; exact ⟨by omega, hz1, hz2⟩
    have sH9 : Sy r g H (upd H8 p (.lst (ts.map V.ref ++ [.ref t]))) := sH8.old np
    have hR9 : Bag (upd H8 p (.lst (ts.map V.ref ++ [.ref t]))) r g _ := hR8.other hpr
    have hl9 : (cs ++ [(1 + e, z)]).length ≤ 2 * i + 1 := by rw [List.length_append]; show _ + 1 ≤ _; omega
    have hp9 : 0 < (cs ++ [(1 + e, z)]).length := by rw [List.length_append]; show 0 < _ + 1; omega
    generalize upd H8 p (.lst (ts.map V.ref ++ [.ref t])) = H9 at hP9 hC9 sH9 hR9 ⊢
    generalize ts ++ [t] = ts9 at hP9 hC9
    generalize cs ++ [(1 + e, z)] = cs9 at hC9 hF9 hl9 hp9
    fail "g"
    refine ⟨r, g, _, _, rfl, hR9, by omega, by decide, by decide, fun H10 d2 _ _ s10 hR10 => ?_⟩
    have hP10 := s10 _ _ hpr.1 hpr.2 hP9
    have hC10 := hC9.sy hR9 s10
    have sH10 := sH9.trans s10
    fail "g"
    refine r_dec (fun h => ?_) (fun h => ?_)
    · fail "g"
      rw [List.length_map, hC10.len]
      refine ⟨r, g, _, _, rfl, hR10, by omega, by omega, by omega, fun H11 d3 hd30 hd31 s11 hR11 => ?_⟩
      obtain ⟨j, rfl⟩ := Int.eq_ofNat_of_zero_le hd30
      have hP11 := s11 _ _ hpr.1 hpr.2 hP10
      have hC11 := hC10.sy hR10 s11
      have sH11 := sH10.trans s11
      obtain ⟨t2, et2, ht2⟩ := hC11.idx (i := j) (by omega)
      fail "g"
      refine r_ixL (sq hP11) (v := .ref t2) (at_of rfl (by rw [List.getElem?_map, et2]; rfl)) ?_
      fail "g"
      refine r_append hP11 (by rw [List.length_map, hC11.len]; exact size_lt (by omega)) ?_
      fail "g"
      refine ⟨ts9 ++ [t2], cs9 ++ [cs9[j]], _, _, _, rfl, by rw [List.length_append]; show _ + 1 ≤ _; omega, by rw [upd_same, List.map_append]; rfl, (hC11.snoc ht2).put hP11, fun c' hc' => ?_, sH11.old np, (hR11.other hpr).le (by omega)⟩
      rcases List.mem_append.mp hc' with h | h
      · exact hF9 c' h
      · rw [List.mem_singleton.mp h]; exact hF9 _ (List.getElem_mem _)
    · fail "g"
      exact ⟨ts9, cs9, _, _, _, rfl, by omega, hP10, hC10, hF9, sH10, hR10.le (by omega)⟩
  · obtain ⟨ts, cs, y4, y5, y6, rfl, hlen, hP, hC, hF, sH, hRi⟩ := p'
    rw [Int.toNat_natCast] at hlen hRi
    fail "g"
    intro p2 n2
    rw [cut_to (b := most) rfl, ← List.map_take] at *
    have s9 := same_new (o := .lst ((ts.take most).map V.ref)) n2
    exact q _ p2 _ (cs.take most) (sH.same s9) (hRi.free sH n2) ((hRi.same s9).le (by omega)) upd_same ((hC.take most).same s9) hF.take (by rw [List.length_take]; omega)
def sp_check_size (K : PySem.W.Frag) : Sp := fun vs H Q _ => ∃ (n : Nat), vs = [.int n] ∧ 1 ≤ n ∧ Q .non H
theorem okp_check_size (T : Txt K mg) : FnOk P w K mg base CX0 3 T.check_size_a T.check_size_d ["size"] (sp_check_size K) := by
  refine T.check_size_F.ok sc_check_size (fun vs H Q E h => ?_) (fun cdv A ou t H vs Q E hr h => ?_)
  · obtain ⟨_, rfl, _⟩ := h; rfl
  have nd := sc_check_size.nd
  obtain ⟨n, rfl, hn, q⟩ := h
  refine ⟨_, (pss_one (ps_if (pt_cmpR op_lt (pv 0) pe_int (nomark _))
        (pss_one ps_never)
        pss_nil)), ?_⟩
  fail "g"
  refine r_itDF (by omega) ?_
  fail "g"
  exact q
theorem ok_check_size (T : Txt K mg) : FnG P w K mg base CX0 3 T.check_size_a T.check_size_d ["size"] (sp_check_size K) := .of (okp_check_size T)
def spx_check_size (K : PySem.W.Frag) (T : Txt K mg) : Sp := fun vs H Q E => ∃ (n : Int), vs = [.int n] ∧ n < 1 ∧ Err H E T.InvalidSize_a (.int n)
theorem okx_check_size (T : Txt K mg) : FnG P w K mg base (L2N.CX P w) 3 T.check_size_a T.check_size_d ["size"] (spx_check_size K T) := by
  refine okX T.check_size_F sc_check_size (fun vs H Q E h => ?_) (fun cdv A ou t H vs Q E hG hr h => ?_)
  · obtain ⟨_, rfl, _⟩ := h; rfl
  have nd := sc_check_size.nd
  obtain ⟨n, rfl, hn, q⟩ := h
  refine ⟨_, (pss_one (ps_if (pt_cmpR op_lt (pv 0) pe_int (nomark _))
        (pss_one (ps_raiseV rfl (L2N.takes_of rfl rfl rfl rfl) T.InvalidSize_E (ini_InvalidSize T) (hr.mono (by decide)) T.InvalidSize_i_b (by rfl) (pa_cons (pv 0) pa_nil)))
        pss_nil)), ?_⟩
  fail "ww"
  refine r_itD hn ?_
  fail "ww"
  exact fun d hd => q _ d (Same.refl _) hd
def sp_check_script (K : PySem.W.Frag) : Sp := fun vs H Q _ => ∃ (n : Nat) (b : Addr) (ts : List Addr) (cs : List Cmd), vs = [.int n, .ref b] ∧ SqL K H b (ts.map V.ref) ∧ Cm H ts cs ∧ Fits n cs ∧ ∀ H', Same H H' → Q .non H'
theorem okp_check_script (T : Txt K mg) : FnOk P w K mg base CX0 3 T.check_script_a T.check_script_d ["size", "commands"] (sp_check_script K) := by
  refine T.check_script_F.ok sc_check_script (fun vs H Q E h => ?_) (fun cdv A ou t H vs Q E hr h => ?_)
  · obtain ⟨_, _, _, _, rfl, _⟩ := h; rfl
  have nd := sc_check_script.nd
  obtain ⟨n, b, ts, cs, rfl, hS, hC, hF, q⟩ := h
  refine ⟨_, (pss_one (ps_for PassesOwn.never rfl (pi_enumK K (by rfl) T.m_enumerate (pa_cons (pv 1) pa_nil)) (pg_tupK K 2 rfl (pgs_cons (gset 2 nd) (pgs_cons (pg_tupK K 2 rfl (pgs_cons (gset 3 nd) (pgs_cons (gset 4 nd) pgs_nil))) pgs_nil)))
        (pss_one (ps_if (PW.pt (pw_or (pt_cmpR op_lt (pv 3) pe_int (nomark _)) (pw_or (pt_cmpR op_lt (pv 4) (pv 3) (nomark _)) (pw_or1 (pt_cmpR op_gt (pv 4) (pv 0) (nomark _))))))
        (pss_one ps_never)
        pss_nil)))), ?_⟩
  fail "g"
  refine forP (walk_enum (xs := ts.map V.ref)) (fun i σ' H' => ∃ y2 y3 y4, σ' = [some (.int n), some (.ref b), y2, y3, y4] ∧ Same H H') ⟨none, none, none, rfl, Same.refl H⟩ (fun i σ' H' _ p => ?_) (fun i σ' H' T1 x y hi p e1 e2 nT => ?_) (fun σ' H' p => ?_)
  · obtain ⟨_, _, _, _, s⟩ := p; exact s.seq hS
  · obtain ⟨y2, y3, y4, rfl, s⟩ := p
    cases e1
    have hi' : i < cs.length := by rw [← hC.len]; simpa using hi
    obtain ⟨t0, et, ht⟩ := hC.idx hi'
    simp only [List.getElem?_map, et] at e2
    cases e2
    have hc := hF cs[i] (List.getElem_mem hi')
    have s1 := s.trans (same_new (o := .tup [.int (i : Nat), .ref t0]) nT)
    have ht1 := s1 _ _ ht
    fail "g"
    refine r_itDF (by omega) ?_
    fail "g"
    refine r_itDF (by omega) ?_
    fail "g"
    refine r_itDF (by omega) ?_
    fail "g"
    exact ⟨_, _, _, rfl, s1⟩
  · obtain ⟨y2, y3, y4, rfl, s⟩ := p
    fail "g"
    exact q _ s
theorem ok_check_script (T : Txt K mg) : FnG P w K mg base CX0 3 T.check_script_a T.check_script_d ["size", "commands"] (sp_check_script K) := .of (okp_check_script T)
def spx_check_script (K : PySem.W.Frag) (T : Txt K mg) : Sp := fun vs H Q E => ∃ (n : Int) (b : Addr) (ts : List Addr) (ws : List Pr) (i : Nat), vs = [.int n, .ref b] ∧ SqL K H b (ts.map V.ref) ∧ Cw H ts ws ∧ eW n ws = some i ∧ Err H E T.InvalidCommand_a (.int i)
theorem okx_check_script (T : Txt K mg) : FnG P w K mg base (L2N.CX P w) 3 T.check_script_a T.check_script_d ["size", "commands"] (spx_check_script K T) := by
  refine okX T.check_script_F sc_check_script (fun vs H Q E h => ?_) (fun cdv A ou t H vs Q E hG hr h => ?_)
  · obtain ⟨_, _, _, _, _, rfl, _⟩ := h; rfl
  have nd := sc_check_script.nd
  obtain ⟨n, b, ts, ws, i0, rfl, hS, hC, hI, q⟩ := h
  refine ⟨_, (pss_one (ps_for (passes_of rfl) rfl (pi_enumK K (by rfl) T.m_enumerate (pa_cons (pv 1) pa_nil)) (pg_tupK K 2 rfl (pgs_cons (gset 2 nd) (pgs_cons (pg_tupK K 2 rfl (pgs_cons (gset 3 nd) (pgs_cons (gset 4 nd) pgs_nil))) pgs_nil)))
        (pss_one (ps_if (PW.pt (pw_or (pt_cmpR op_lt (pv 3) pe_int (nomark _)) (pw_or (pt_cmpR op_lt (pv 4) (pv 3) (nomark _)) (pw_or1 (pt_cmpR op_gt (pv 4) (pv 0) (nomark _))))))
        (pss_one (ps_raiseV rfl (L2N.takes_of rfl rfl rfl rfl) T.InvalidCommand_E (ini_InvalidCommand T) (hr.mono (by decide)) T.InvalidCommand_i_b (by rfl) (pa_cons (pv 2) pa_nil)))
        pss_nil)))), ?_⟩
  obtain ⟨hi0, hb, hl⟩ := first_at hI
  fail "ww"
  refine forP (walk_enum (xs := ts.map V.ref)) (fun i σ' H' => ∃ y2 y3 y4, σ' = [some (.int n), some (.ref b), y2, y3, y4] ∧ Same H H' ∧ i ≤ i0) ⟨none, none, none, rfl, Same.refl H, Nat.zero_le _⟩ (fun i σ' H' _ p => ?_) (fun i σ' H' T1 x y hi p e1 e2 nT => ?_) (fun σ' H' p => ?_)
  · obtain ⟨_, _, _, _, s, _⟩ := p; exact s.seq hS
  · obtain ⟨y2, y3, y4, rfl, s, hle⟩ := p
    cases e1
    have hi' : i < ws.length := by rw [← hC.len]; simpa using hi
    obtain ⟨t0, et, ht⟩ := hC.idx hi'
    simp only [List.getElem?_map, et] at e2
    cases e2
    have s1 := s.trans (same_new (o := .tup [.int (i : Nat), .ref t0]) nT)
    have ht1 := s1 _ _ ht
    have hw := wrW_at (n := n) (ws := ws) (i := i) (List.getElem?_eq_getElem hi')
    have bad : ¬ FitW n ws[i] → i = i0 := fun g => by
      rcases Nat.lt_or_eq_of_le hle with z | z
      · have := hl i z
        rw [hw, decide_eq_false g] at this
        cases this
      · exact z
    have good : FitW n ws[i] → i + 1 ≤ i0 := fun g => by
      rcases Nat.lt_or_eq_of_le hle with z | z
      · exact z
      · rw [← z, hw, decide_eq_true g] at hb
        cases hb
    unfold FitW at bad good
    fail "ww"
    refine r_dec (fun g => ?_) (fun g => ?_)
    · fail "ww"
      rw [bad (by omega)] at *
      exact fun d hd => q _ d s1 hd
    fail "ww"
    refine r_dec (fun g2 => ?_) (fun g2 => ?_)
    · fail "ww"
      rw [bad (by omega)] at *
      exact fun d hd => q _ d s1 hd
    fail "ww"
    refine r_dec (fun g3 => ?_) (fun g3 => ?_)
    · fail "ww"
      rw [bad (by omega)] at *
      exact fun d hd => q _ d s1 hd
    fail "ww"
    exact ⟨_, _, _, rfl, s1, good (by omega)⟩
  · obtain ⟨y2, y3, y4, rfl, s, hle⟩ := p
    rw [List.length_map, hC.len] at hle
    omega
def sp_check_arrangement (K : PySem.W.Frag) : Sp := fun vs H Q _ => ∃ (a : Addr) (ns : List Int), vs = [.ref a] ∧ SqL K H a (ns.map V.int) ∧ IsArr ns ∧ ns.length ≤ 1000 ∧ ∀ H', Same H H' → Q .non H'
theorem ok_check_arrangement (T : Txt K mg) : FnG P w K mg base CX0 3 T.check_arrangement_a T.check_arrangement_d ["row"] (sp_check_arrangement K) := by
  refine okG T.check_arrangement_F sc_check_arrangement (fun vs H Q E h => ?_) (fun cdv A ou t H vs Q E hG hr h => ?_)
  · obtain ⟨_, _, rfl, _⟩ := h; rfl
  have nd := sc_check_arrangement.nd
  obtain ⟨a, ns, rfl, hS, hA, hlen, q⟩ := h
  refine ⟨_, (pss_cons (sset 1 nd (pe_callTy0 cr_set0 (by rfl) T.m_set (by decide +kernel)))
      (pss_one (ps_for PassesOwn.never rfl (pi_enumK K (by rfl) T.m_enumerate (pa_cons (pv 0) pa_nil)) (pg_tupK K 2 rfl (pgs_cons (gset 2 nd) (pgs_cons (gset 3 nd) pgs_nil)))
        (pss_cons (ps_if (PW.pt (pw_or (pt_cmpR op_lt (pv 3) pe_int (nomark _)) (pw_or (pt_cmpR op_gt (pv 3) (pe_callB (lenK K) (by rfl) T.m_len PySem.boot_len (pa_cons (pv 0) pa_nil)) (nomark _)) (pw_or1 (pt_cmpR or_sin (pv 3) (pv 1) (by rfl))))))
        (pss_one ps_never)
        pss_nil)
      (pss_one (ps_expr (pe_sadd (pv 1) (pa_cons (pv 3) pa_nil)))))))), ?_⟩
  fail "g"
  refine r_set0 fun p np => ?_
  have s1 := same_new (o := SetO w p (fun _ => false) 0) np
  have hS1 := s1.seq hS
  fail "g"
  refine ⟨a, _, rfl, hS1, ?_⟩
  refine forEI (walk_enum (xs := ns.map V.int)) (fun i σ' H' => ∃ (S : Int → Bool) (n : Nat) (y2 y3 : Option V), σ' = [some (.ref a), some (.ref p), y2, y3] ∧ Same H H' ∧ H' p = some (SetO w p S n) ∧ n ≤ i ∧ ∀ v, S v = true → v ∈ ns.take i)
    ⟨fun _ => false, 0, none, none, rfl, s1, upd_same, Nat.le_refl _, fun v hv => by cases hv⟩ (fun i σ' H' _ p => ?_) (fun i σ' H' T1 hi p' nT => ?_) (fun σ' H' p' => ?_)
  · obtain ⟨_, _, _, _, _, s, _⟩ := p; exact s.seq hS
  · obtain ⟨S, n, y2, y3, rfl, s, hP, hn, hin⟩ := p'
    have s2 := s.trans (same_new (o := .tup [.int (i : Nat), .int ns[i]]) nT)
    have hS2 := s2.seq hS
    have hP2 := upd_old (o := .tup [.int (i : Nat), .int ns[i]]) nT hP
    have hv := hA.2 ns[i] (List.getElem_mem hi)
    fail "g"
    refine r_itDF (by omega) ?_
    fail "g"
    refine r_itDF (by rw [List.length_map]; omega) ?_
    fail "g"
    refine r_sin hP2 ?_
    have hno : S ns[i] = false := by
      cases h : S ns[i] with
      | false => rfl
      | true =>
        have h1 := hin _ h
        have h2 := hA.1
        rw [← List.take_append_drop i ns, List.nodup_append] at h2
        rw [List.drop_eq_getElem_cons hi] at h2
        exact absurd rfl (h2.2.2 _ h1 _ List.mem_cons_self)
    rw [hno]
    fail "g"
    refine ⟨⟨p, S, n, rfl, hP2⟩, ?_⟩
    fail "g"
    refine r_sadd hP2 (by omega) ?_
    fail "g"
    refine ⟨_, _, _, _, rfl, same_old s2 np, upd_same, by split <;> omega, fun v hv => ?_⟩
    rw [take_one hi]
    rcases Bool.or_eq_true_iff.mp hv with h | h
    · exact List.mem_append_left _ (hin v h)
    · rw [of_decide_eq_true h]; exact List.mem_append_right _ List.mem_cons_self
  · obtain ⟨S, n, y2, y3, rfl, s, hP, hn, hin⟩ := p'
    fail "g"
    exact q _ s
def spx_check_arrangement (K : PySem.W.Frag) (T : Txt K mg) : Sp := fun vs H Q E => ∃ (a : Addr) (ns : List Int) (i : Nat), vs = [.ref a] ∧ SqL K H a (ns.map V.int) ∧ ns.length ≤ 1000 ∧ eR ns = some i ∧ Err H E T.InvalidRow_a (.int i)
theorem okx_check_arrangement (T : Txt K mg) : FnG P w K mg base (L2N.CX P w) 3 T.check_arrangement_a T.check_arrangement_d ["row"] (spx_check_arrangement K T) := by
  refine okX T.check_arrangement_F sc_check_arrangement (fun vs H Q E h => ?_) (fun cdv A ou t H vs Q E hG hr h => ?_)
  · obtain ⟨_, _, _, rfl, _⟩ := h; rfl
  have nd := sc_check_arrangement.nd
  obtain ⟨a, ns, i0, rfl, hS, hlen, hI, q⟩ := h
  refine ⟨_, (pss_cons (sset 1 nd (pe_callTy0 cr_set0 (by rfl) T.m_set (by decide +kernel)))
      (pss_one (ps_for (passes_of rfl) rfl (pi_enumK K (by rfl) T.m_enumerate (pa_cons (pv 0) pa_nil)) (pg_tupK K 2 rfl (pgs_cons (gset 2 nd) (pgs_cons (gset 3 nd) pgs_nil)))
        (pss_cons (ps_if (PW.pt (pw_or (pt_cmpR op_lt (pv 3) pe_int (nomark _)) (pw_or (pt_cmpR op_gt (pv 3) (pe_callB (lenK K) (by rfl) T.m_len PySem.boot_len (pa_cons (pv 0) pa_nil)) (nomark _)) (pw_or1 (pt_cmpR or_sin (pv 3) (pv 1) (by rfl))))))
        (pss_one (ps_raiseV rfl (L2N.takes_of rfl rfl rfl rfl) T.InvalidRow_E (ini_InvalidRow T) (hr.mono (by decide)) T.InvalidRow_i_b (by rfl) (pa_cons (pv 2) pa_nil)))
        pss_nil)
      (pss_one (ps_expr (pe_sadd (pv 1) (pa_cons (pv 3) pa_nil)))))))), ?_⟩
  obtain ⟨hi0, hb, hl⟩ := first_at hI
  fail "ww"
  refine r_set0 fun p np => ?_
  have s1 := same_new (o := SetO w p (fun _ => false) 0) np
  have hS1 := s1.seq hS
  fail "ww"
  refine forEI (walk_enum (xs := ns.map V.int)) (fun i σ' H' => ∃ (S : Int → Bool) (n : Nat) (y2 y3 : Option V), σ' = [some (.ref a), some (.ref p), y2, y3] ∧ Same H H' ∧ H' p = some (SetO w p S n) ∧ n ≤ i ∧ (∀ v, S v = decide (v ∈ ns.take i)) ∧ i ≤ i0)
    ⟨fun _ => false, 0, none, none, rfl, s1, upd_same, Nat.le_refl _, (fun v => by simp), Nat.zero_le _⟩ (fun i σ' H' _ p => ?_) (fun i σ' H' T1 hi p' nT => ?_) (fun σ' H' p' => ?_)
  · obtain ⟨_, _, _, _, _, s, _⟩ := p; exact s.seq hS
  · obtain ⟨S, n, y2, y3, rfl, s, hP, hn, hin, hle⟩ := p'
    have s2 := s.trans (same_new (o := .tup [.int (i : Nat), .int ns[i]]) nT)
    have hS2 := s2.seq hS
    have hP2 := upd_old (o := .tup [.int (i : Nat), .int ns[i]]) nT hP
    have hw := wrR_at hi
    have bad : ¬ (1 ≤ ns[i] ∧ ns[i] ≤ (ns.length : Int) ∧ ns[i] ∉ ns.take i) → i = i0 := fun g => by
      rcases Nat.lt_or_eq_of_le hle with z | z
      · have := hl i z
        rw [hw, decide_eq_false g] at this
        cases this
      · exact z
    have good : (1 ≤ ns[i] ∧ ns[i] ≤ (ns.length : Int) ∧ ns[i] ∉ ns.take i) → i + 1 ≤ i0 := fun g => by
      rcases Nat.lt_or_eq_of_le hle with z | z
      · exact z
      · rw [← z, hw, decide_eq_true g] at hb
        cases hb
    fail "ww"
    refine r_dec (fun g => ?_) (fun g => ?_)
    · fail "ww"
      have := bad (by omega)
      subst this
      exact fun d hd => q _ d s2 hd
    fail "ww"
    rw [List.length_map]
    refine r_dec (fun g2 => ?_) (fun g2 => ?_)
    · fail "ww"
      have := bad (by omega)
      subst this
      exact fun d hd => q _ d s2 hd
    fail "ww"
    refine r_sin hP2 ?_
    rw [hin]
    fail "ww"
    refine r_dec (fun g3 => ?_) (fun g3 => ?_)
    · fail "ww"
      have := bad (fun z => z.2.2 g3)
      subst this
      exact fun d hd => q _ d s2 hd
    fail "ww"
    refine ⟨⟨p, S, n, rfl, hP2⟩, ?_⟩
    fail "ww"
    refine r_sadd hP2 (by omega) ?_
    fail "ww"
    refine ⟨_, _, _, _, rfl, same_old s2 np, upd_same, by split <;> omega, fun v => ?_, good ⟨by omega, by omega, g3⟩⟩
    have e : decide (v ∈ ns.take (i + 1)) = (decide (v ∈ ns.take i) || decide (v = ns[i])) := by
      rw [take_one hi, Bool.eq_iff_iff, decide_eq_true_iff, Bool.or_eq_true, decide_eq_true_iff, decide_eq_true_iff, List.mem_append, List.mem_singleton]
    rw [e, ← hin]
  · obtain ⟨S, n, y2, y3, rfl, s, hP, hn, hin, hle⟩ := p'
    rw [List.length_map] at hle
    omega
def sp_check_sized_script (K : PySem.W.Frag) : Sp := fun vs H Q _ => ∃ (n : Nat) (b : Addr) (ts : List Addr) (cs : List Cmd), vs = [.int n, .ref b] ∧ 1 ≤ n ∧ SqL K H b (ts.map V.ref) ∧ Cm H ts cs ∧ Fits n cs ∧ ∀ H', Same H H' → Q .non H'
theorem okp_check_sized_script (T : Txt K mg) : FnOk P w K mg base CX0 4 T.check_sized_script_a T.check_sized_script_d ["size", "commands"] (sp_check_sized_script K) := by
  refine T.check_sized_script_F.ok sc_check_sized_script (fun vs H Q E h => ?_) (fun cdv A ou t H vs Q E hr h => ?_)
  · obtain ⟨_, _, _, _, rfl, _⟩ := h; rfl
  have nd := sc_check_sized_script.nd
  obtain ⟨n, b, ts, cs, rfl, hn, hS, hC, hF, q⟩ := h
  refine ⟨_, (pss_cons (ps_expr (pe_call (okp_check_size T) (hr.mono (by decide)) (by rfl) T.check_size_g T.check_size_F.kp T.check_size_b .nil pass0 (pa_cons (pv 0) pa_nil)))
      (pss_one (ps_expr (pe_call (okp_check_script T) (hr.mono (by decide)) (by rfl) T.check_script_g T.check_script_F.kp T.check_script_b .nil pass0 (pa_cons (pv 0) (pa_cons (pv 1) pa_nil)))))), ?_⟩
  fail "g"
  refine ⟨n, rfl, hn, ?_⟩
  fail "g"
  refine ⟨n, b, ts, cs, rfl, hS, hC, hF, fun H' s => ?_⟩
  fail "g"
  exact q _ s
theorem ok_check_sized_script (T : Txt K mg) : FnG P w K mg base CX0 4 T.check_sized_script_a T.check_sized_script_d ["size", "commands"] (sp_check_sized_script K) := .of (okp_check_sized_script T)
def spx_check_sized_script (K : PySem.W.Frag) (T : Txt K mg) : Sp := fun vs H Q E => ∃ (n : Int) (b : Addr) (ts : List Addr) (ws : List Pr) (cy : Addr × V), vs = [.int n, .ref b] ∧ SqL K H b (ts.map V.ref) ∧ Cw H ts ws ∧ BadRun T n ws cy.1 cy.2 ∧ Err H E cy.1 cy.2
theorem okx_check_sized_script (T : Txt K mg) : FnG P w K mg base (L2N.CX P w) 4 T.check_sized_script_a T.check_sized_script_d ["size", "commands"] (spx_check_sized_script K T) := by
  refine okX T.check_sized_script_F sc_check_sized_script (fun vs H Q E h => ?_) (fun cdv A ou t H vs Q E hG hr h => ?_)
  · obtain ⟨_, _, _, _, _, rfl, _⟩ := h; rfl
  have nd := sc_check_sized_script.nd
  obtain ⟨n, b, ts, ws, ⟨c, y⟩, rfl, hS, hC, bd, q⟩ := h
  refine ⟨_, (pss_cons (ps_expr (pe_callX ((ok_check_size T).lift.or (okx_check_size T)) hG (hr.mono (by decide)) (by rfl) T.check_size_g T.check_size_F.kp T.check_size_b (L2N.takes_of rfl rfl rfl rfl) (pa_cons (pv 0) pa_nil)))
      (pss_one (ps_expr (pe_callX ((ok_check_script T).lift.or (okx_check_script T)) hG (hr.mono (by decide)) (by rfl) T.check_script_g T.check_script_F.kp T.check_script_b (L2N.takes_of rfl rfl rfl rfl) (pa_cons (pv 0) (pa_cons (pv 1) pa_nil)))))), ?_⟩
  fail "ww"
  rcases bd with ⟨hn, e1, e2⟩ | ⟨hn, i, hi, e1, e2⟩
  · obtain rfl : c = _ := e1
    obtain rfl : y = _ := e2
    exact .inr ⟨n, rfl, hn, q⟩
  · obtain rfl : c = _ := e1
    obtain rfl : y = _ := e2
    obtain ⟨m, rfl⟩ := Int.eq_ofNat_of_zero_le (show 0 ≤ n by omega)
    refine .inl ⟨m, rfl, by omega, ?_⟩
    fail "ww"
    exact .inr ⟨_, b, ts, ws, i, rfl, hS, hC, hi, q⟩
def sp_greatest_before (K : PySem.W.Frag) : Sp := fun vs H Q _ => ∃ (b a : Addr) (E : List Int) (n : Nat) (ts : List Addr) (cs : List Cmd), vs = [.ref b, .ref a] ∧ SqL K H b (ts.map V.ref) ∧ SqL K H a (E.map V.int) ∧ E.Perm (ascN n) ∧ 1 ≤ n ∧ n ≤ 1000 ∧ Cm H ts cs ∧ Fits n cs ∧
  ∀ (H' : Hp) (p : Addr), Same H H' → H p = none → H' p = some (.lst ((backM cs E).map V.int)) → Q (.ref p) H'
theorem ok_greatest_before (T : Txt K mg) : FnG P w K mg base CX0 4 T.greatest_before_a T.greatest_before_d ["commands", "row"] (sp_greatest_before K) := by
  refine okG T.greatest_before_F sc_greatest_before (fun vs H Q E h => ?_) (fun cdv A ou t H vs Q E hG hr h => ?_)
  · obtain ⟨_, _, _, _, _, _, rfl, _⟩ := h; rfl
  have nd := sc_greatest_before.nd
  obtain ⟨b, a, E, n, ts, cs, rfl, hB, hA, hE, hn, hn2, hC, hF, q⟩ := h
  refine ⟨_, (pss_cons (ps_expr (pe_callG (ok_check_arrangement T) hG (hr.mono (by decide)) (by rfl) T.check_arrangement_g T.check_arrangement_F.kp T.check_arrangement_b .nil pass0 (pa_cons (pv 1) pa_nil)))
      (pss_cons (ps_expr (pe_callG (ok_check_script T) hG (hr.mono (by decide)) (by rfl) T.check_script_g T.check_script_F.kp T.check_script_b .nil pass0 (pa_cons (pe_callB (lenK K) (by rfl) T.m_len PySem.boot_len (pa_cons (pv 1) pa_nil)) (pa_cons (pv 0) pa_nil))))
      (pss_cons (sset 2 nd (pe_callTy (listK K) (by rfl) T.m_list (by decide +kernel) (pa_cons (pv 1) pa_nil)))
      (pss_cons (ps_for PassesOwn.never rfl (pi_reversedK K (by rfl) T.m_reversed (pa_cons (pv 0) pa_nil)) (pg_tupK K 2 rfl (pgs_cons (gset 3 nd) (pgs_cons (gset 4 nd) pgs_nil)))
        (pss_one (ps_asg (pe_callBK (sortedRK K) (by rfl) T.m_sorted (by decide +kernel) (pa_cons (pe_slice (sl_listK K) (pv 2) (po_some (pe_op op_sub (pv 3) pe_int)) (po_some (pv 4))) pa_nil) (pk_cons pe_bl pk_nil)) (pg_slc (pv 2) (po_some (pe_op op_sub (pv 3) pe_int)) (po_some (pv 4))))))
      (pss_one (ps_ret (pv 2))))))), ?_⟩
  have hEl : E.length = n := by rw [hE.length_eq]; simp [ascN]
  fail "g"
  refine ⟨a, E, rfl, hA, arr_asc hE, by omega, fun H1 s1 => ?_⟩
  have hA1 := s1.seq hA
  have hB1 := s1.seq hB
  fail "g"
  rw [List.length_map, hEl]
  refine ⟨n, b, ts, cs, rfl, hB1, hC.same s1, hF, fun H2 s2 => ?_⟩
  have s12 := s1.trans s2
  have hA2 := s12.seq hA
  have hB2 := s12.seq hB
  have hC2 := hC.same s12
  fail "g"
  intro p np
  have np0 := s12.free np
  have s3 := s12.trans (same_new (o := .lst (E.map V.int)) np)
  have hB3 := s3.seq hB
  fail "g"
  refine forI (walk_rev (xs := ts.map V.ref)) (fun i σ' H' => ∃ (y3 y4 : Option V), σ' = [some (.ref b), some (.ref a), some (.ref p), y3, y4] ∧ Same H H' ∧ H' p = some (.lst ((backR (cs.reverse.take i) E).map V.int)))
    ⟨none, none, rfl, s3, upd_same⟩ (fun i σ' H' _ q => ?_) (fun i x σ' H' H2' hi q y => ?_) (fun σ' H' q' => ?_)
  · obtain ⟨_, _, _, s, _⟩ := q; exact s.seq hB
  · obtain ⟨rfl, ey⟩ := y
    obtain ⟨y3, y4, rfl, s, hP⟩ := q
    have htl : ts.length = cs.length := hC.len
    have hi' : i < cs.length := by rw [← hC.len]; simpa using hi
    have hj : cs.length - 1 - i < cs.length := by omega
    obtain ⟨t0, et, ht⟩ := hC.idx hj
    have e1 : x = .ref t0 := by
      rw [List.length_map, htl, List.getElem?_map, et] at ey
      exact (Option.some.inj ey).symm
    subst e1
    have hir : i < cs.reverse.length := by rw [List.length_reverse]; exact hi'
    have er : cs.reverse[i] = cs[cs.length - 1 - i] := List.getElem_reverse ..
    have hc := hF _ (List.getElem_mem hj)
    have ht1 := s _ _ ht
    have hft : Fits E.length (cs.reverse.take i) := by rw [hEl]; exact hF.rev.take
    have hlenP : (backR (cs.reverse.take i) E).length = n := by rw [(backR_perm _ _ hft).length_eq, hEl]
    rw [take_one hir, backR_snoc, er]
    generalize backR (cs.reverse.take i) E = cur at hP hlenP ⊢
    generalize cs[cs.length - 1 - i] = c at hc ht ht1 ⊢
    fail "g"
    intro l0 n0
    rw [cut_mid (a := c.1 - 1) (b := c.2) (by omega) rfl (by rw [List.length_map]; omega), ← List.map_drop, ← List.map_take] at *
    fail "g"
    refine ⟨l0, _, rfl, rfl, sq upd_same, fun ns' l1 hperm hup n1 => ?_⟩
    have e2 : ns' = (srt ((cur.drop (c.1 - 1)).take (c.2 - (c.1 - 1)))).reverse := down_is hperm hup
    subst e2
    fail "g"
    have hP2 := upd_old (o := .lst (((srt ((cur.drop (c.1 - 1)).take (c.2 - (c.1 - 1)))).reverse).map V.int)) n1 (upd_old (o := .lst (((cur.drop (c.1 - 1)).take (c.2 - (c.1 - 1))).map V.int)) n0 hP)
    refine ⟨p, l1, _, _, _, _, rfl, rfl, rfl, rfl, hP2, upd_same, ne_of_none (upd_old n0 hP) n1, by omega, by omega, by rw [List.length_map]; omega, ?_, ?_⟩
    · rw [List.length_map, List.length_map, List.length_reverse, srt_len, List.length_take, List.length_drop]; exact size_le (by omega)
    · refine ⟨_, _, rfl, same_old ((s.trans (same_new n0)).trans (same_new n1)) np0, ?_⟩
      rw [upd_same]
      rw [show ((c.1 : Nat) - 1 : Int).toNat = c.1 - 1 by omega, show ((c.2 : Nat) : Int).toNat = c.2 by omega, ← List.map_take, ← List.map_drop, ← List.map_append, ← List.map_append]
      rfl
  · obtain ⟨y3, y4, rfl, s, hP⟩ := q'
    fail "g"
    rw [List.take_of_length_le (by rw [List.length_map, hC.len, List.length_reverse]; exact Nat.le_refl _)] at hP
    exact q _ _ s np0 hP
def spx_greatest_before (K : PySem.W.Frag) (T : Txt K mg) : Sp := fun vs H Q E => ∃ (b a : Addr) (ns : List Int) (ts : List Addr) (ws : List Pr) (cy : Addr × V), vs = [.ref b, .ref a] ∧ SqL K H b (ts.map V.ref) ∧ SqL K H a (ns.map V.int) ∧ ns.length ≤ 1000 ∧ Cw H ts ws ∧ BadGB T ns ws cy.1 cy.2 ∧ Err H E cy.1 cy.2
theorem okx_greatest_before (T : Txt K mg) : FnG P w K mg base (L2N.CX P w) 4 T.greatest_before_a T.greatest_before_d ["commands", "row"] (spx_greatest_before K T) := by
  refine okX T.greatest_before_F sc_greatest_before (fun vs H Q E h => ?_) (fun cdv A ou t H vs Q E hG hr h => ?_)
  · obtain ⟨_, _, _, _, _, _, rfl, _⟩ := h; rfl
  have nd := sc_greatest_before.nd
  obtain ⟨b, a, ns, ts, ws, ⟨c, y⟩, rfl, hS, hA, hl, hC, bd, q⟩ := h
  refine ⟨_, (pss_cons (ps_expr (pe_callX ((ok_check_arrangement T).lift.or (okx_check_arrangement T)) hG (hr.mono (by decide)) (by rfl) T.check_arrangement_g T.check_arrangement_F.kp T.check_arrangement_b (L2N.takes_of rfl rfl rfl rfl) (pa_cons (pv 1) pa_nil)))
      (pss_cons (ps_expr (pe_callX ((ok_check_script T).lift.or (okx_check_script T)) hG (hr.mono (by decide)) (by rfl) T.check_script_g T.check_script_F.kp T.check_script_b (L2N.takes_of rfl rfl rfl rfl) (pa_cons (pe_callB (lenK K) (by rfl) T.m_len PySem.boot_len (pa_cons (pv 1) pa_nil)) (pa_cons (pv 0) pa_nil))))
      (pss_cons (sset 2 nd (pe_callTy (listK K) (by rfl) T.m_list (by decide +kernel) (pa_cons (pv 1) pa_nil)))
      (pss_cons (ps_for (passes_of rfl) rfl (pi_reversedK K (by rfl) T.m_reversed (pa_cons (pv 0) pa_nil)) (pg_tupK K 2 rfl (pgs_cons (gset 3 nd) (pgs_cons (gset 4 nd) pgs_nil)))
        (pss_one (ps_asg (pe_callBK (sortedRK K) (by rfl) T.m_sorted (by decide +kernel) (pa_cons (pe_slice (sl_listK K) (pv 2) (po_some (pe_op op_sub (pv 3) pe_int)) (po_some (pv 4))) pa_nil) (pk_cons pe_bl pk_nil)) (pg_slc (pv 2) (po_some (pe_op op_sub (pv 3) pe_int)) (po_some (pv 4))))))
      (pss_one (ps_ret (pv 2))))))), ?_⟩
  fail "ww"
  rcases bd with ⟨i, hi, e1, e2⟩ | ⟨hn, i, hi, e1, e2⟩
  · obtain rfl : c = _ := e1
    obtain rfl : y = _ := e2
    exact .inr ⟨a, ns, i, rfl, hA, hl, hi, q⟩
  · obtain rfl : c = _ := e1
    obtain rfl : y = _ := e2
    refine .inl ⟨a, ns, rfl, hA, eR_arr hn, hl, fun H1 s1 => ?_⟩
    fail "ww"
    exact .inr ⟨_, b, ts, ws, i, rfl, s1.seq hS, hC.same s1, by rw [List.length_map]; exact hi, q.up s1⟩
def sp_stages (K : PySem.W.Frag) : SpG := fun vs H Q _ => ∃ (a b : Addr) (ns : List Int) (ts : List Addr) (cs : List Cmd), vs = [.ref a, .ref b] ∧ SqL K H a (ns.map V.int) ∧ SqL K H b (ts.map V.ref) ∧ Cm H ts cs ∧ 1 ≤ ns.length ∧ ns.length ≤ 1000 ∧ cs.length ≤ 100000 ∧ Fits ns.length cs ∧
  ∀ (H' : Hp) (rs : List Addr), Same H H' → Stg H H' rs ns cs → Q (rs.map V.ref) H'
theorem okg_stages (T : Txt K mg) : GFn P w K mg base 5 T.stages_a T.stages_d ["row", "commands"] (sp_stages K) := by
  refine okGen T.stages_F sc_stages (fun vs H Q E h => ?_) (fun cdv A ou t H vs Q E pn hr h => ?_)
  · obtain ⟨_, _, _, _, _, rfl, _⟩ := h; rfl
  have nd := sc_stages.nd
  obtain ⟨a, b, ns, ts, cs, rfl, hS, hB, hC, hn1, hn2, hc2, hF, q⟩ := h
  refine ⟨_, (gss_cons (gs_ps (ps_expr (pe_call (okp_check_sized_script T) (hr.mono (by decide)) (by rfl) T.check_sized_script_g T.check_sized_script_F.kp T.check_sized_script_b .nil pass0 (pa_cons (pe_callB (lenK K) (by rfl) T.m_len PySem.boot_len (pa_cons (pv 0) pa_nil)) (pa_cons (pv 1) pa_nil)))))
      (gss_cons (gs_ps (sset 2 nd (pe_callTy (listK K) (by rfl) T.m_list (by decide +kernel) (pa_cons (pv 0) pa_nil))))
      (gss_cons (gs_yield (pe_callTy (listK K) (by rfl) T.m_list (by decide +kernel) (pa_cons (pv 2) pa_nil)))
      (gss_cons (gs_for (fun _ _ z => z) rfl (pi_listK K (pv 1)) (pg_tupK K 2 rfl (pgs_cons (gset 3 nd) (pgs_cons (gset 4 nd) pgs_nil)))
        (gss_cons (gs_ps (ps_asg (pe_callB (sortedK K) (by rfl) T.m_sorted (by decide +kernel) (pa_cons (pe_slice (sl_listK K) (pv 2) (po_some (pe_op op_sub (pv 3) pe_int)) (po_some (pv 4))) pa_nil)) (pg_slc (pv 2) (po_some (pe_op op_sub (pv 3) pe_int)) (po_some (pv 4)))))
      (gss_cons (gs_yield (pe_callTy (listK K) (by rfl) T.m_list (by decide +kernel) (pa_cons (pv 2) pa_nil)))
      gss_nil)))
      gss_nil)))), ?_⟩
  fail "g"
  refine ⟨ns.length, b, ts, cs, by rw [List.length_map]; rfl, hn1, hB, hC, hF, fun H1 s1 => ?_⟩
  have hS1 := s1.seq hS
  have hB1 := s1.seq hB
  fail "g"
  intro p np
  have hp1 : H1 p = none := np
  have s2 := s1.trans (same_new (o := .lst (ns.map V.int)) np)
  have hB2 := s2.seq hB
  have hP2 : upd H1 p (.lst (ns.map V.int)) p = some (.lst (ns.map V.int)) := upd_same
  have hp : H p = none := gone s1 hp1
  generalize upd H1 p (.lst (ns.map V.int)) = H2 at *
  fail "g"
  refine r_gyield (by show 0 < sizeLine; decide) ?_
  fail "g"
  intro c0 nc0
  have hc0 : H2 c0 = none := nc0
  have hP3 := upd_old (o := .lst (ns.map V.int)) nc0 hP2
  have s3 := s2.trans (same_new (o := .lst (ns.map V.int)) nc0)
  have hB3 := s3.seq hB
  have hC3 : upd H2 c0 (.lst (ns.map V.int)) c0 = some (.lst (ns.map V.int)) := upd_same
  have hne : c0 ≠ p := ne_of_none hP2 hc0 |>.symm
  have hcH : H c0 = none := gone s2 hc0
  generalize upd H2 c0 (.lst (ns.map V.int)) = H3 at *
  fail "g"
  refine gforA (walk_list (xs := ts.map V.ref)) (fun i ys σ' H' => ∃ y3 y4 rs, σ' = [some (.ref a), some (.ref b), some (.ref p), y3, y4] ∧ Same H H' ∧ H' p = some (.lst ((runM ns (cs.take i)).map V.int)) ∧ ys = rs.map V.ref ∧ rs.length = i + 1 ∧ ∀ j b, rs[j]? = some b → H b = none ∧ b ≠ p ∧ H' b = some (.lst ((runM ns (cs.take j)).map V.int)))
    ⟨none, none, [c0], rfl, s3, hP3, rfl, rfl, fun j b e => ?_⟩ (fun i ys σ' H' _ q => ?_) (fun i ys σ' H' hi q => ?_) (fun ys σ' H' q' => ?_)
  · cases j with
    | zero => cases e; exact ⟨hcH, hne, hC3⟩
    | succ j => simp at e
  · obtain ⟨_, _, _, _, s, _⟩ := q; exact s.seq hB
  · obtain ⟨y3, y4, rs, rfl, s, hP, rfl, hl, hr⟩ := q
    have hi' : i < cs.length := by rw [← hC.len]; simpa using hi
    obtain ⟨t0, et, ht⟩ := hC.idx hi'
    have e1 : (ts.map V.ref)[i] = .ref t0 := by
      have : (ts.map V.ref)[i]? = some (.ref t0) := by rw [List.getElem?_map, et]; rfl
      rw [List.getElem?_eq_getElem hi] at this
      exact Option.some.inj this
    rw [e1]
    have hc := hF cs[i] (List.getElem_mem hi')
    have ht1 := s _ _ ht
    have hlenP : (runM ns (cs.take i)).length = ns.length := runM_len hF.take
    fail "g"
    intro l0 n0
    rw [cut_mid (a := cs[i].1 - 1) (b := cs[i].2) (by omega) rfl (by rw [List.length_map]; omega), ← List.map_drop, ← List.map_take] at *
    fail "g"
    refine ⟨l0, _, rfl, sq upd_same, fun ns' l1 hperm hup n1 => ?_⟩
    have e2 := srt_is hperm hup
    subst e2
    fail "g"
    have hP2 := upd_old (o := .lst ((srt (((runM ns (cs.take i)).drop (cs[i].1 - 1)).take (cs[i].2 - (cs[i].1 - 1)))).map V.int)) n1 (upd_old (o := .lst ((((runM ns (cs.take i)).drop (cs[i].1 - 1)).take (cs[i].2 - (cs[i].1 - 1))).map V.int)) n0 hP)
    refine ⟨p, l1, _, _, _, _, rfl, rfl, rfl, rfl, hP2, upd_same, ne_of_none (upd_old n0 hP) n1, by omega, by omega, by rw [List.length_map]; omega, ?_, ?_⟩
    · rw [List.length_map, List.length_map, srt_len, List.length_take, List.length_drop]; exact size_le (by omega)
    · have s4 := same_old ((s.trans (same_new (o := .lst ((((runM ns (cs.take i)).drop (cs[i].1 - 1)).take (cs[i].2 - (cs[i].1 - 1))).map V.int)) n0)).trans (same_new (o := .lst ((srt (((runM ns (cs.take i)).drop (cs[i].1 - 1)).take (cs[i].2 - (cs[i].1 - 1)))).map V.int)) n1)) hp (o := .lst ((runM ns (cs.take (i + 1))).map V.int))
      have hr4 : ∀ j b, rs[j]? = some b → H b = none ∧ b ≠ p ∧ upd (upd (upd H' l0 (.lst ((((runM ns (cs.take i)).drop (cs[i].1 - 1)).take (cs[i].2 - (cs[i].1 - 1))).map V.int))) l1 (.lst ((srt (((runM ns (cs.take i)).drop (cs[i].1 - 1)).take (cs[i].2 - (cs[i].1 - 1)))).map V.int))) p (.lst ((runM ns (cs.take (i + 1))).map V.int)) b = some (.lst ((runM ns (cs.take j)).map V.int)) := fun j b e => by
        obtain ⟨r1, r2, r3⟩ := hr j b e
        exact ⟨r1, r2, upd_to r2 (upd_old n1 (upd_old n0 r3))⟩
      have hp4 : upd (upd (upd H' l0 (.lst ((((runM ns (cs.take i)).drop (cs[i].1 - 1)).take (cs[i].2 - (cs[i].1 - 1))).map V.int))) l1 (.lst ((srt (((runM ns (cs.take i)).drop (cs[i].1 - 1)).take (cs[i].2 - (cs[i].1 - 1)))).map V.int))) p (.lst ((runM ns (cs.take (i + 1))).map V.int)) p = some (.lst ((runM ns (cs.take (i + 1))).map V.int)) := upd_same
      have e7 : ((runM ns (cs.take i)).map V.int).take (((cs[i].1 : Nat) : Int) - 1).toNat ++ (srt (((runM ns (cs.take i)).drop (cs[i].1 - 1)).take (cs[i].2 - (cs[i].1 - 1)))).map V.int ++ ((runM ns (cs.take i)).map V.int).drop (((cs[i].2 : Nat) : Int)).toNat = (runM ns (cs.take (i + 1))).map V.int := by
        rw [take_one hi', runM_snoc, show ((cs[i].1 : Nat) - 1 : Int).toNat = cs[i].1 - 1 by omega, show ((cs[i].2 : Nat) : Int).toNat = cs[i].2 by omega, ← List.map_take, ← List.map_drop, ← List.map_append, ← List.map_append]
        rfl
      rw [e7]
      generalize upd (upd (upd H' l0 _) l1 _) p _ = H4 at s4 hr4 hp4 ⊢
      fail "g"
      refine r_gyield (by rw [List.length_map, hl]; exact size_lt (by omega)) ?_
      fail "g"
      intro c1 nc1
      have hc1 : H4 c1 = none := nc1
      fail "g"
      refine ⟨_, _, rs ++ [c1], rfl, s4.trans (same_new nc1), upd_old nc1 hp4, by rw [List.map_append]; rfl, by rw [List.length_append, hl]; rfl, fun j b e => ?_⟩
      by_cases hj : j < rs.length
      · rw [List.getElem?_append_left hj] at e
        obtain ⟨r1, r2, r3⟩ := hr4 j b e
        exact ⟨r1, r2, upd_old nc1 r3⟩
      · rw [List.getElem?_append_right (by omega)] at e
        have e3 : j = i + 1 := by
          cases hh : j - rs.length with
          | zero => omega
          | succ k => rw [hh] at e; simp at e
        subst e3
        rw [show i + 1 - rs.length = 0 by omega] at e
        cases e
        exact ⟨gone s4 hc1, (ne_of_none hp4 hc1).symm, upd_same⟩
  · obtain ⟨y3, y4, rs, rfl, s, hP, rfl, hl, hr⟩ := q'
    fail "g"
    rw [List.length_map, hC.len] at hl
    exact q _ _ s ⟨hl, fun j b e => ⟨(hr j b e).1, (hr j b e).2.2⟩⟩
def spg_stages (K : PySem.W.Frag) (T : Txt K mg) : SpX := fun vs H E => ∃ (a b : Addr) (ns : List Int) (ts : List Addr) (ws : List Pr) (cy : Addr × V), vs = [.ref a, .ref b] ∧ SqL K H a (ns.map V.int) ∧ SqL K H b (ts.map V.ref) ∧ Cw H ts ws ∧ BadRun T ns.length ws cy.1 cy.2 ∧ Err H E cy.1 cy.2
theorem okgx_stages (T : Txt K mg) : GFnX P w K mg base 5 T.stages_a T.stages_d ["row", "commands"] (spg_stages K T) := by
  refine okGX T.stages_F sc_stages (fun vs H E h => ?_) rfl (fun cdv A ou t H vs E pn hG hr h => ?_)
  · obtain ⟨_, _, _, _, _, _, rfl, _⟩ := h; rfl
  have nd := sc_stages.nd
  obtain ⟨a, b, ns, ts, ws, cy, rfl, hA, hS, hC, bd, q⟩ := h
  refine ⟨_, (ps_expr (pe_callX ((ok_check_sized_script T).lift.or (okx_check_sized_script T)) hG (hr.mono (by decide)) (by rfl) T.check_sized_script_g T.check_sized_script_F.kp T.check_sized_script_b takes_gcxN (pa_cons (pe_callB (lenK K) (by rfl) T.m_len PySem.boot_len (pa_cons (pv 0) pa_nil)) (pa_cons (pv 1) pa_nil)))), ?_⟩
  fail "ww"
  exact .inr ⟨_, b, ts, ws, cy, rfl, hS, hC, by rw [List.length_map]; exact bd, q⟩
def sp_greatest_row (K : PySem.W.Frag) : Sp := fun vs H Q _ => ∃ (n : Nat) (b : Addr) (ts : List Addr) (cs : List Cmd), vs = [.int n, .ref b] ∧ 1 ≤ n ∧ n ≤ 1000 ∧ SqL K H b (ts.map V.ref) ∧ Cm H ts cs ∧ Fits n cs ∧
  ∀ (H' : Hp) (p : Addr), Same H H' → H p = none → H' p = some (.lst ((backM cs (ascN n)).map V.int)) → Q (.ref p) H'
theorem ok_greatest_row (T : Txt K mg) : FnG P w K mg base CX0 5 T.greatest_row_a T.greatest_row_d ["size", "commands"] (sp_greatest_row K) := by
  refine okG T.greatest_row_F sc_greatest_row (fun vs H Q E h => ?_) (fun cdv A ou t H vs Q E hG hr h => ?_)
  · obtain ⟨_, _, _, _, rfl, _⟩ := h; rfl
  have nd := sc_greatest_row.nd
  obtain ⟨n, b, ts, cs, rfl, hn, hn2, hB, hC, hF, q⟩ := h
  refine ⟨_, (pss_cons (ps_expr (pe_callG (ok_check_size T) hG (hr.mono (by decide)) (by rfl) T.check_size_g T.check_size_F.kp T.check_size_b .nil pass0 (pa_cons (pv 0) pa_nil)))
      (pss_one (ps_ret (pe_callG (ok_greatest_before T) hG (hr.mono (by decide)) (by rfl) T.greatest_before_g T.greatest_before_F.kp T.greatest_before_b .nil pass0 (pa_cons (pv 1) (pa_cons (pe_listRg rfl (by rfl) T.m_list (prg_2 (by rfl) T.m_range pe_int (pe_op op_add (pv 0) pe_int))) pa_nil)))))), ?_⟩
  fail "g"
  refine ⟨n, rfl, hn, ?_⟩
  fail "g"
  refine ⟨RgOk.of_le (by omega) (by omega) (by omega) (by omega), fun l0 nl => ?_⟩
  have e : rgV 1 ((n : Int) + 1) = (ascN n).map V.int := by
    unfold rgV ascN
    rw [List.map_map, show ((n : Int) + 1 - 1).toNat = n by omega]
    rfl
  rw [e]
  have s1 := same_new (o := .lst ((ascN n).map V.int)) nl
  fail "g"
  refine ⟨b, l0, ascN n, n, ts, cs, rfl, s1.seq hB, sq upd_same, List.Perm.refl _, hn, hn2, hC.same s1, hF, fun H2 p s2 np hP => ?_⟩
  exact q _ p (s1.trans s2) (s1.free np) hP
def spx_greatest_row (K : PySem.W.Frag) (T : Txt K mg) : Sp := fun vs H Q E => ∃ (n : Int) (b : Addr) (ts : List Addr) (ws : List Pr) (cy : Addr × V), vs = [.int n, .ref b] ∧ n ≤ 1000 ∧ SqL K H b (ts.map V.ref) ∧ Cw H ts ws ∧ BadRun T n ws cy.1 cy.2 ∧ Err H E cy.1 cy.2
theorem okx_greatest_row (T : Txt K mg) : FnG P w K mg base (L2N.CX P w) 5 T.greatest_row_a T.greatest_row_d ["size", "commands"] (spx_greatest_row K T) := by
  refine okX T.greatest_row_F sc_greatest_row (fun vs H Q E h => ?_) (fun cdv A ou t H vs Q E hG hr h => ?_)
  · obtain ⟨_, _, _, _, _, rfl, _⟩ := h; rfl
  have nd := sc_greatest_row.nd
  obtain ⟨n, b, ts, ws, ⟨c, y⟩, rfl, hn2, hS, hC, bd, q⟩ := h
  refine ⟨_, (pss_cons (ps_expr (pe_callX ((ok_check_size T).lift.or (okx_check_size T)) hG (hr.mono (by decide)) (by rfl) T.check_size_g T.check_size_F.kp T.check_size_b (L2N.takes_of rfl rfl rfl rfl) (pa_cons (pv 0) pa_nil)))
      (pss_one (ps_ret (pe_callX ((ok_greatest_before T).lift.or (okx_greatest_before T)) hG (hr.mono (by decide)) (by rfl) T.greatest_before_g T.greatest_before_F.kp T.greatest_before_b (L2N.takes_of rfl rfl rfl rfl) (pa_cons (pv 1) (pa_cons (pe_listRg rfl (by rfl) T.m_list (prg_2 (by rfl) T.m_range pe_int (pe_op op_add (pv 0) pe_int))) pa_nil)))))), ?_⟩
  fail "ww"
  rcases bd with ⟨hn, e1, e2⟩ | ⟨hn, i, hi, e1, e2⟩
  · obtain rfl : c = _ := e1
    obtain rfl : y = _ := e2
    exact .inr ⟨n, rfl, hn, q⟩
  · obtain rfl : c = _ := e1
    obtain rfl : y = _ := e2
    obtain ⟨m, rfl⟩ := Int.eq_ofNat_of_zero_le (show 0 ≤ n by omega)
    refine .inl ⟨m, rfl, by omega, ?_⟩
    fail "ww"
    have e : rgV 1 ((m : Int) + 1) = (ascN m).map V.int := by
      unfold rgV ascN
      rw [List.map_map, show ((m : Int) + 1 - 1).toNat = m by omega]
      rfl
    refine ⟨RgOk.of_le (by omega) (by omega) (by omega) (by omega), new_map e (new_ fun l H1 nl s1 h1 => ?_)⟩
    fail "ww"
    have hla : (ascN m).length = m := by simp [ascN]
    exact .inr ⟨b, l, ascN m, ts, ws, (T.InvalidCommand_a, .int i), rfl, s1.seq hS, sq h1, by rw [hla]; omega, hC.same s1, .inr ⟨arr_eR (arr_asc (List.Perm.refl _)), i, by rw [hla]; exact hi, rfl, rfl⟩, q.up s1⟩
def sp_is_result (K : PySem.W.Frag) : Sp := fun vs H Q _ => ∃ (b a : Addr) (E : List Int) (n : Nat) (ts : List Addr) (cs : List Cmd), vs = [.ref a, .ref b] ∧ SqL K H b (ts.map V.ref) ∧ SqL K H a (E.map V.int) ∧ E.Perm (ascN n) ∧ 1 ≤ n ∧ n ≤ 1000 ∧ Cm H ts cs ∧ Fits n cs ∧
  ∀ (H' : Hp), Same H H' → Q (.bl (decide (runM (backM cs E) cs = E))) H'
theorem ok_is_result (T : Txt K mg) : FnG P w K mg base CX0 5 T.is_result_a T.is_result_d ["row", "commands"] (sp_is_result K) := by
  refine okG T.is_result_F sc_is_result (fun vs H Q E h => ?_) (fun cdv A ou t H vs Q E hG hr h => ?_)
  · obtain ⟨_, _, _, _, _, _, rfl, _⟩ := h; rfl
  have nd := sc_is_result.nd
  obtain ⟨b, a, E, n, ts, cs, rfl, hB, hA, hE, hn, hn2, hC, hF, q⟩ := h
  refine ⟨_, (pss_cons (sset 2 nd (pe_callG (ok_greatest_before T) hG (hr.mono (by decide)) (by rfl) T.greatest_before_g T.greatest_before_F.kp T.greatest_before_b .nil pass0 (pa_cons (pv 1) (pa_cons (pv 0) pa_nil))))
      (pss_one (ps_ret (pe_cmpR (eqDK K hr.units) (pe_callG (ok_sort_stretches T) hG (hr.mono (by decide)) (by rfl) T.sort_stretches_g T.sort_stretches_F.kp T.sort_stretches_b .nil pass0 (pa_cons (pv 2) (pa_cons (pv 1) pa_nil))) (pv 0) (nomark _))))), ?_⟩
  have hEl : E.length = n := by rw [hE.length_eq]; simp [ascN]
  have hbl : (backM cs E).length = n := by rw [(backM_perm (by rw [hEl]; exact hF)).length_eq, hEl]
  fail "g"
  refine ⟨b, a, E, n, ts, cs, rfl, hB, hA, hE, hn, hn2, hC, hF, fun H1 p s1 np hP => ?_⟩
  fail "g"
  refine ⟨p, b, _, ts, cs, rfl, sq hP, s1.seq hB, hC.same s1, by omega, by rw [hbl]; exact hF, fun H2 p2 s2 np2 hP2 => ?_⟩
  fail "g"
  have s12 := s1.trans s2
  refine r_eqL (sq hP2) (s12.seq hA) ?_
  exact q _ s12
def spx_is_result (K : PySem.W.Frag) (T : Txt K mg) : Sp := fun vs H Q E => ∃ (b a : Addr) (ns : List Int) (ts : List Addr) (ws : List Pr) (cy : Addr × V), vs = [.ref a, .ref b] ∧ SqL K H b (ts.map V.ref) ∧ SqL K H a (ns.map V.int) ∧ ns.length ≤ 1000 ∧ Cw H ts ws ∧ BadGB T ns ws cy.1 cy.2 ∧ Err H E cy.1 cy.2
theorem okx_is_result (T : Txt K mg) : FnG P w K mg base (L2N.CX P w) 5 T.is_result_a T.is_result_d ["row", "commands"] (spx_is_result K T) := by
  refine okX T.is_result_F sc_is_result (fun vs H Q E h => ?_) (fun cdv A ou t H vs Q E hG hr h => ?_)
  · obtain ⟨_, _, _, _, _, _, rfl, _⟩ := h; rfl
  have nd := sc_is_result.nd
  obtain ⟨b, a, ns, ts, ws, cy, rfl, hS, hA, hl, hC, bd, q⟩ := h
  refine ⟨_, (pss_cons (sset 2 nd (pe_callX ((ok_greatest_before T).lift.or (okx_greatest_before T)) hG (hr.mono (by decide)) (by rfl) T.greatest_before_g T.greatest_before_F.kp T.greatest_before_b (L2N.takes_of rfl rfl rfl rfl) (pa_cons (pv 1) (pa_cons (pv 0) pa_nil))))
      (pss_one (ps_ret (pe_cmpR (eqDK K hr.units) (pe_callG (ok_sort_stretches T) hG (hr.mono (by decide)) (by rfl) T.sort_stretches_g T.sort_stretches_F.kp T.sort_stretches_b .nil pass0 (pa_cons (pv 2) (pa_cons (pv 1) pa_nil))) (pv 0) (nomark _))))), ?_⟩
  fail "ww"
  exact .inr ⟨b, a, ns, ts, ws, cy, rfl, hS, hA, hl, hC, bd, q⟩
def sp_needed_zeros (K : PySem.W.Frag) : Sp := fun vs H Q _ => ∃ (n : Nat) (b : Addr) (z : Nat) (ts : List Addr) (cs : List Cmd), vs = [.int n, .ref b, .int z] ∧ 1 ≤ n ∧ n ≤ 1000 ∧ z ≤ n ∧ SqL K H b (ts.map V.ref) ∧ Cm H ts cs ∧ Fits n cs ∧
  ∀ (H' : Hp) (p : Addr), Same H H' → H p = none → H' p = some (.lst ((needL (fun p => zc (backM cs (ascN n)) (z : Int) p) n).map V.int)) → Q (.ref p) H'
theorem ok_needed_zeros (T : Txt K mg) : FnG P w K mg base CX0 6 T.needed_zeros_a T.needed_zeros_d ["size", "commands", "zeros"] (sp_needed_zeros K) := by
  refine okG T.needed_zeros_F sc_needed_zeros (fun vs H Q E h => ?_) (fun cdv A ou t H vs Q E hG hr h => ?_)
  · obtain ⟨_, _, _, _, _, rfl, _⟩ := h; rfl
  have nd := sc_needed_zeros.nd
  obtain ⟨n, b, z, ts, cs, rfl, hn, hn2, hz, hB, hC, hF, q⟩ := h
  refine ⟨_, (pss_cons (sset 3 nd (pe_callG (ok_greatest_row T) hG (hr.mono (by decide)) (by rfl) T.greatest_row_g T.greatest_row_F.kp T.greatest_row_b .nil pass0 (pa_cons (pv 0) (pa_cons (pv 1) pa_nil))))
      (pss_cons (ps_if (PW.pt (pw_or (pt_cmpR op_lt (pv 2) pe_int (nomark _)) (pw_or1 (pt_cmpR op_gt (pv 2) (pv 0) (nomark _)))))
        (pss_one ps_never)
        pss_nil)
      (pss_cons (sset 4 nd (pe_lst (pa_cons pe_int pa_nil)))
      (pss_cons (ps_for PassesOwn.never rfl (pi_listK K (pv 3)) (gset 5 nd)
        (pss_one (ps_expr (pe_bmK K PySem.F.plainAttrs_list PySem.F.slot_list_append PySem.F.type_list_append mt_append (pv 4) (pa_cons (pe_op op_add (pe_ix (ix_listK K) (pv 4) (pe_un un_neg pe_int) (fun _ _ => rfl)) (pe_ifExp (pt_cmpR op_le (pv 5) (pv 2) (nomark _)) pe_int pe_int)) pa_nil)))))
      (pss_one (ps_ret (pv 4))))))), ?_⟩
  have hG := back_perm_n (List.Perm.refl (ascN n)) hF
  have hGl := perm_len hG
  fail "ww"
  refine ⟨n, b, ts, cs, rfl, hn, hn2, hB, hC, hF, fun H1 p s1 np hp => ?_⟩
  fail "ww"
  rw [decide_eq_false (show ¬ ((z : Nat) : Int) < 0 by omega)]
  fail "ww"
  rw [decide_eq_false (show ¬ ((z : Nat) : Int) > (n : Int) by omega)]
  fail "ww"
  refine new_ fun l H2 nl s2 hl => ?_
  fail "ww"
  generalize hGe : backM cs (ascN n) = G at *
  have hp2 := s2 _ _ hp
  have nl0 := s1.free nl
  have s12 := s1.trans s2
  refine forAI (walk_list (xs := G.map V.int)) (fun i σ' H' => ∃ (y5 : Option V) (_u : Unit), σ' = [some (.int n), some (.ref b), some (.int z), some (.ref p), some (.ref l), y5] ∧ Same H1 H' ∧ H' l = some (.lst ((needL (fun p => zc G (z : Int) p) i).map V.int)))
    ⟨none, (), rfl, s2, hl⟩ (fun i σ' H' _ p' => ?_) (fun i σ' H' hi p' => ?_) (fun σ' H' p' => ?_)
  · obtain ⟨_, _, _, s, _⟩ := p'; exact sq (s _ _ hp)
  · obtain ⟨y5, _, rfl, s, hl⟩ := p'
    fail "ww"
    refine r_ixL (sq hl) (by rw [needL_last]; exact at_last) ?_
    fail "ww"
    refine r_dec (fun g => ?_) (fun g => ?_)
    · fail "ww"
      refine r_append hl (by rw [List.length_map, needL_len]; exact size_lt (by omega)) ?_
      refine ⟨_, (), rfl, same_old s nl, ?_⟩
      rw [upd_same, needL_succ, List.map_append, zc_succ (by omega), if_pos g]; rfl
    · fail "ww"
      refine r_append hl (by rw [List.length_map, needL_len]; exact size_lt (by omega)) ?_
      refine ⟨_, (), rfl, same_old s nl, ?_⟩
      rw [upd_same, needL_succ, List.map_append, zc_succ (by omega), if_neg g]
      simp
  · obtain ⟨y5, _, rfl, s, hl⟩ := p'
    fail "ww"
    rw [List.length_map, hGl] at hl
    exact q _ l (s1.trans s) nl0 hl
def spx_needed_zeros (K : PySem.W.Frag) (T : Txt K mg) : Sp := fun vs H Q E => ∃ (n z : Int) (b : Addr) (ts : List Addr) (ws : List Pr) (cy : Addr × V), vs = [.int n, .ref b, .int z] ∧ n ≤ 1000 ∧ SqL K H b (ts.map V.ref) ∧ Cw H ts ws ∧ BadNz T n z ws cy.1 cy.2 ∧ Err H E cy.1 cy.2
theorem okx_needed_zeros (T : Txt K mg) : FnG P w K mg base (L2N.CX P w) 6 T.needed_zeros_a T.needed_zeros_d ["size", "commands", "zeros"] (spx_needed_zeros K T) := by
  refine okX T.needed_zeros_F sc_needed_zeros (fun vs H Q E h => ?_) (fun cdv A ou t H vs Q E hG hr h => ?_)
  · obtain ⟨_, _, _, _, _, _, rfl, _⟩ := h; rfl
  have nd := sc_needed_zeros.nd
  obtain ⟨n, z, b, ts, ws, ⟨c, y⟩, rfl, hn2, hS, hC, bd, q⟩ := h
  refine ⟨_, (pss_cons (sset 3 nd (pe_callX ((ok_greatest_row T).lift.or (okx_greatest_row T)) hG (hr.mono (by decide)) (by rfl) T.greatest_row_g T.greatest_row_F.kp T.greatest_row_b (L2N.takes_of rfl rfl rfl rfl) (pa_cons (pv 0) (pa_cons (pv 1) pa_nil))))
      (pss_cons (ps_if (PW.pt (pw_or (pt_cmpR op_lt (pv 2) pe_int (nomark _)) (pw_or1 (pt_cmpR op_gt (pv 2) (pv 0) (nomark _)))))
        (pss_one (ps_raiseV rfl (L2N.takes_of rfl rfl rfl rfl) T.InvalidNumber_E (ini_InvalidNumber T) (hr.mono (by decide)) T.InvalidNumber_i_b (by rfl) (pa_cons (pv 2) pa_nil)))
        pss_nil)
      (pss_cons (sset 4 nd (pe_lst (pa_cons pe_int pa_nil)))
      (pss_cons (ps_for (passes_of rfl) rfl (pi_listK K (pv 3)) (gset 5 nd)
        (pss_one (ps_expr (pe_bmK K PySem.F.plainAttrs_list PySem.F.slot_list_append PySem.F.type_list_append mt_append (pv 4) (pa_cons (pe_op op_add (pe_ix (ix_listK K) (pv 4) (pe_un un_neg pe_int) (fun _ _ => rfl)) (pe_ifExp (pt_cmpR op_le (pv 5) (pv 2) (nomark _)) pe_int pe_int)) pa_nil)))))
      (pss_one (ps_ret (pv 4))))))), ?_⟩
  fail "ww"
  rcases bd with bd | ⟨h1, he, hz, e1, e2⟩
  · exact .inr ⟨n, b, ts, ws, (c, y), rfl, hn2, hS, hC, bd, q⟩
  · obtain rfl : c = _ := e1
    obtain rfl : y = _ := e2
    obtain ⟨m, rfl⟩ := Int.eq_ofNat_of_zero_le (show 0 ≤ n by omega)
    obtain ⟨cs, hf, ew⟩ := fits_cmds (n := m) (eW_fits he)
    have hM : Cm H ts cs := (ew ▸ hC : Cw H ts (cs.map toW)).toCm
    refine .inl ⟨m, b, ts, cs, rfl, by omega, by omega, hS, hM, hf, fun H1 p s1 np hp => ?_⟩
    fail "ww"
    by_cases h0 : z < 0
    · rw [decide_eq_true h0]
      fail "ww"
      exact fun d hd => q _ d s1 hd
    · rw [decide_eq_false h0]
      fail "ww"
      rw [decide_eq_true (show z > (m : Int) by omega)]
      fail "ww"
      exact fun d hd => q _ d s1 hd
def sp_count_sorted (K : PySem.W.Frag) : Sp := fun vs H Q _ => ∃ (n : Nat) (b : Addr) (ts : List Addr) (cs : List Cmd), vs = [.int n, .ref b] ∧ 1 ≤ n ∧ n ≤ 12 ∧ SqL K H b (ts.map V.ref) ∧ Cm H ts cs ∧ Fits n cs ∧
  ∀ (H' : Hp), Same H H' → Q (.int (getC (cntM (backM cs (ascN n)) n) (ascN n) : Nat)) H'
theorem ok_count_sorted (T : Txt K mg) : FnG P w K mg base CX0 6 T.count_sorted_a T.count_sorted_d ["size", "commands"] (sp_count_sorted K) := by
  refine okG T.count_sorted_F sc_count_sorted (fun vs H Q E h => ?_) (fun cdv A ou t H vs Q E hG hr h => ?_)
  · obtain ⟨_, _, _, _, rfl, _⟩ := h; rfl
  have nd := sc_count_sorted.nd
  obtain ⟨n, b, ts, cs, rfl, hn1, hn2, hB, hC, hF, q⟩ := h
  refine ⟨_, (pss_cons (sset 2 nd (pe_callG (ok_greatest_row T) hG (hr.mono (by decide)) (by rfl) T.greatest_row_g T.greatest_row_F.kp T.greatest_row_b .nil pass0 (pa_cons (pv 0) (pa_cons (pv 1) pa_nil))))
      (pss_cons (sset 3 nd (pe_dispT hr.units (pps_cons (pe_tup pa_nil) pe_int pps_nil)))
      (pss_cons (ps_for PassesOwn.never rfl (pi_range2 (by rfl) T.m_range (pa_cons pe_int (pa_cons (pe_op op_add (pv 0) pe_int) pa_nil))) (gset 4 nd)
        (pss_one (sset 3 nd (pe_callG (ok_longer_beginnings T) hG (hr.mono (by decide)) (by rfl) T.longer_beginnings_g T.longer_beginnings_F.kp T.longer_beginnings_b .nil pass0 (pa_cons (pv 3) (pa_cons (pe_callB (sortedK K) (by rfl) T.m_sorted (by decide +kernel) (pa_cons (pe_slice (sl_listK K) (pv 2) po_none (po_some (pv 4))) pa_nil)) pa_nil))))))
      (pss_one (ps_ret (pe_dget (hu_of hr) (pv 3) (pe_tupRg rfl (by rfl) T.m_tuple (prg_2 (by rfl) T.m_range pe_int (pe_op op_add (pv 0) pe_int))) (fun _ _ => rfl))))))), ?_⟩
  fail "ww"
  refine ⟨n, b, ts, cs, rfl, hn1, by omega, hB, hC, hF, fun H1 p s1 np hp => ?_⟩
  have hG := back_perm_n (List.Perm.refl (ascN n)) hF
  generalize backM cs (ascN n) = g at *
  fail "ww"
  intro D nD
  fail "ww"
  refine new_ fun t0 H2 n2 s2 h2 => ?_
  fail "ww"
  refine ⟨s2 _ _ upd_same, t0, [], .int 1, rfl, h2, ?_⟩
  have sD : Same H1 (upd H2 D (.dT [([], .int 1)])) := fun b u e => upd_to (ne_of_none e nD) (s2 _ _ (upd_to (ne_of_none e nD) e))
  have hD0 : upd H2 D (.dT [([], .int 1)]) D = some (.dT (kvC (cntM g 0))) := upd_same
  generalize upd H2 D (.dT [([], .int 1)]) = H3 at *
  have hp3 := sD _ _ hp
  have s13 := s1.trans sD
  clear h2 s2 n2 t0 nD hp np s1 sD
  fail "ww"
  refine ⟨⟨by omega, by omega, by omega, by omega⟩, ?_⟩
  have hgl : g.length = n := by rw [hG.length_eq]; simp [ascN]
  refine forF walk_range (fun i σ' H' => ∃ (d : Addr) (y4 : Option V), σ' = [some (.int (n : Int)), some (.ref b), some (.ref p), some (.ref d), y4] ∧ Same H H' ∧ H' p = some (.lst (g.map V.int)) ∧ H' d = some (.dT (kvC (cntM g i))))
    ⟨D, none, rfl, s13, hp3, hD0⟩ (fun _ _ _ _ _ => trivial) (fun i σ' H' hi pp => ?_) (fun σ' H' pp => ?_)
  · clear hp3 hD0 s13
    obtain ⟨d, y4, rfl, s, hP, hd⟩ := pp
    have hin : i + 1 ≤ n := by omega
    obtain ⟨⟨hk1, hk2⟩, _⟩ := cnt_keys hG i (by omega)
    have hfew := KeysIn.few ⟨hk1, hk2⟩
    have hpow : 2 ^ n ≤ 2 ^ 12 := Nat.pow_le_pow_right (by decide) hn2
    fail "ww"
    refine n_slT (sq hP) (a := i + 1) (by omega) (new_ fun p4 H4 n4 s4 h4 => ?_)
    fail "ww"
    refine n_sorted (sq h4) (new_ fun p5 H5 n5 s5 h5 => ?_)
    have s45 := s4.trans s5
    have hne : srt (g.take (i + 1)) ≠ [] := fun e => by
      have := srt_len (g.take (i + 1))
      rw [e, List.length_take] at this
      simp at this
      omega
    have hlast := last_in hne
    have hlb := asc_mem.mp (hG.mem_iff.mp (List.mem_of_mem_take ((srt_perm _).mem_iff.mp hlast)))
    obtain ⟨t, ht⟩ : ∃ t : Nat, (srt (g.take (i + 1))).getLastD 0 = (t : Int) := ⟨_, (Int.toNat_of_nonneg (by omega)).symm⟩
    have hat : atI ((srt (g.take (i + 1))).map V.int) (-1) = some (.int (t : Int)) := by
      have e := List.dropLast_concat_getLast hne
      rw [← ht, List.getLastD_eq_getLast?, List.getLast?_eq_some_getLast hne]
      conv => lhs; rw [← e]
      exact at_last
    fail "ww"
    refine ⟨d, p5, cntM g i, srt (g.take (i + 1)), t, rfl, s45 _ _ hd, sq h5, hat, by omega, by omega, fun q hq => ?_, fun H6 l s6 nl hl => ?_⟩
    · obtain ⟨a1, a2⟩ := hk2 q.1 (List.mem_map.mpr ⟨q, hq, rfl⟩)
      have := nodup_len (a1.imp fun h => by omega) a2
      have e : (ascN n).length = n := by simp [ascN]
      omega
    · fail "ww"
      have s46 := s45.trans s6
      refine ⟨s.trans s46, s46 _ _ hP, ?_⟩
      rw [hl, cntM, ht]
      rfl
  · obtain ⟨d, y4, rfl, s, hP, hd⟩ := pp
    rw [show ((n : Int) + 1 - 1).toNat = n by omega] at hd
    fail "ww"
    unfold tTupRg
    fail "ww"
    refine ⟨RgOk.of_le (by omega) (by omega) (by omega) (by omega), fun u nu => ?_⟩
    have hdu := upd_old (o := .tup (rgV 1 ((n : Int) + 1))) nu hd
    have hgf : g.take n = g := List.take_of_length_le (by omega)
    have hkey : srt (g.take n) = ascN n := by rw [hgf]; exact srt_asc hG
    have hin := (cnt_keys hG n (Nat.le_refl _)).2
    rw [hkey] at hin
    obtain ⟨pr, hpr⟩ := getC_key hin
    have hval : getC (cntM g n) (ascN n) = pr.2 := by unfold getC; rw [hpr]; rfl
    have hv : valV (kvC (cntM g n)) ((ascN n).map Sum.inl) = some (.int (pr.2 : Nat)) := by
      unfold valV
      rw [kvC_find, hpr]
      rfl
    have hrk : rgV 1 ((n : Int) + 1) = ((ascN n).map (Sum.inl : Int → Key)).map kV := by rw [rg_ascN, kV_map]
    refine ⟨d, .int (pr.2 : Nat), rfl, ?_, by rw [← hval]; exact q _ (s.trans (same_new nu))⟩
    have := DGet.t hdu (k := (ascN n).map Sum.inl) (b := u) (by rw [← hrk]; exact upd_same)
    rw [hv] at this
    exact this
def spx_count_sorted (K : PySem.W.Frag) (T : Txt K mg) : Sp := fun vs H Q E => ∃ (n : Int) (b : Addr) (ts : List Addr) (ws : List Pr) (cy : Addr × V), vs = [.int n, .ref b] ∧ n ≤ 1000 ∧ SqL K H b (ts.map V.ref) ∧ Cw H ts ws ∧ BadRun T n ws cy.1 cy.2 ∧ Err H E cy.1 cy.2
theorem okx_count_sorted (T : Txt K mg) : FnG P w K mg base (L2N.CX P w) 6 T.count_sorted_a T.count_sorted_d ["size", "commands"] (spx_count_sorted K T) := by
  refine okX T.count_sorted_F sc_count_sorted (fun vs H Q E h => ?_) (fun cdv A ou t H vs Q E hG hr h => ?_)
  · obtain ⟨_, _, _, _, _, rfl, _⟩ := h; rfl
  have nd := sc_count_sorted.nd
  obtain ⟨n, b, ts, ws, cy, rfl, hn2, hS, hC, bd, q⟩ := h
  refine ⟨_, (pss_cons (sset 2 nd (pe_callX ((ok_greatest_row T).lift.or (okx_greatest_row T)) hG (hr.mono (by decide)) (by rfl) T.greatest_row_g T.greatest_row_F.kp T.greatest_row_b (L2N.takes_of rfl rfl rfl rfl) (pa_cons (pv 0) (pa_cons (pv 1) pa_nil))))
      (pss_cons (sset 3 nd (pe_dispT hr.units (pps_cons (pe_tup pa_nil) pe_int pps_nil)))
      (pss_cons (ps_for (passes_of rfl) rfl (pi_range2 (by rfl) T.m_range (pa_cons pe_int (pa_cons (pe_op op_add (pv 0) pe_int) pa_nil))) (gset 4 nd)
        (pss_one (sset 3 nd (pe_callG (ok_longer_beginnings T) hG (hr.mono (by decide)) (by rfl) T.longer_beginnings_g T.longer_beginnings_F.kp T.longer_beginnings_b .nil pass0 (pa_cons (pv 3) (pa_cons (pe_callB (sortedK K) (by rfl) T.m_sorted (by decide +kernel) (pa_cons (pe_slice (sl_listK K) (pv 2) po_none (po_some (pv 4))) pa_nil)) pa_nil))))))
      (pss_one (ps_ret (pe_dget (hu_of hr) (pv 3) (pe_tupRg rfl (by rfl) T.m_tuple (prg_2 (by rfl) T.m_range pe_int (pe_op op_add (pv 0) pe_int))) (fun _ _ => rfl))))))), ?_⟩
  fail "ww"
  exact .inr ⟨n, b, ts, ws, cy, rfl, hn2, hS, hC, bd, q⟩
def sp_count_sorted_bits (K : PySem.W.Frag) : Sp := fun vs H Q _ => ∃ (n : Nat) (b : Addr) (z : Nat) (ts : List Addr) (cs : List Cmd), vs = [.int n, .ref b, .int z] ∧ 1 ≤ n ∧ n ≤ 1000 ∧ z ≤ n ∧ SqL K H b (ts.map V.ref) ∧ Cm H ts cs ∧ Fits n cs ∧
  ∀ (H' : Hp), Same H H' → Q (.int (Wd (cntN cs n z) n z n 0 : Nat)) H'
theorem ok_count_sorted_bits (T : Txt K mg) : FnG P w K mg base CX0 7 T.count_sorted_bits_a T.count_sorted_bits_d ["size", "commands", "zeros"] (sp_count_sorted_bits K) := by
  refine okG T.count_sorted_bits_F sc_count_sorted_bits (fun vs H Q E h => ?_) (fun cdv A ou t H vs Q E hG hr h => ?_)
  · obtain ⟨_, _, _, _, _, rfl, _⟩ := h; rfl
  have nd := sc_count_sorted_bits.nd
  obtain ⟨n, b, z, ts, cs, rfl, hn, hn2, hz, hB, hC, hF, q⟩ := h
  refine ⟨_, (pss_cons (sset 3 nd (pe_callG (ok_ways_to_go_on T) hG (hr.mono (by decide)) (by rfl) T.ways_to_go_on_g T.ways_to_go_on_F.kp T.ways_to_go_on_b .nil pass0 (pa_cons (pe_callG (ok_needed_zeros T) hG (hr.mono (by decide)) (by rfl) T.needed_zeros_g T.needed_zeros_F.kp T.needed_zeros_b .nil pass0 (pa_cons (pv 0) (pa_cons (pv 1) (pa_cons (pv 2) pa_nil)))) pa_nil)))
      (pss_one (ps_ret (pe_ix (ix_listK K) (pe_ix (ix_listK K) (pv 3) pe_int (fun _ _ => rfl)) pe_int (fun _ _ => rfl))))), ?_⟩
  have hG := back_perm_n (List.Perm.refl (ascN n)) hF
  have hN := need_of hG hz
  fail "ww"
  refine ⟨n, b, z, ts, cs, rfl, hn, hn2, hz, hB, hC, hF, fun H1 p s1 np hp => ?_⟩
  fail "ww"
  refine ⟨p, cntN cs n z, n, z, (), rfl, hp, hN.top, hn2, hz, fun H2 p2 as s2 n2 h2 hR => ?_⟩
  fail "ww"
  have hl := hR.len
  obtain ⟨t, et, ht⟩ := hR.idx (i := 0) (by simp [tabW])
  have ht' : H2 t = some (.lst ((rowW (cntN cs n z) n z n).map V.int)) := Rws.row hR et (tab_at (Nat.zero_le _))
  refine r_ixL (sq h2) (at_of (j := 0) rfl (by rw [List.getElem?_map, et]; rfl)) ?_
  fail "ww"
  refine r_ixL (sq ht') (at_opt (j := 0) rfl (rowW_at (by omega))) ?_
  exact q _ (s1.trans s2)
def spx_count_sorted_bits (K : PySem.W.Frag) (T : Txt K mg) : Sp := fun vs H Q E => ∃ (n z : Int) (b : Addr) (ts : List Addr) (ws : List Pr) (cy : Addr × V), vs = [.int n, .ref b, .int z] ∧ n ≤ 1000 ∧ SqL K H b (ts.map V.ref) ∧ Cw H ts ws ∧ BadNz T n z ws cy.1 cy.2 ∧ Err H E cy.1 cy.2
theorem okx_count_sorted_bits (T : Txt K mg) : FnG P w K mg base (L2N.CX P w) 7 T.count_sorted_bits_a T.count_sorted_bits_d ["size", "commands", "zeros"] (spx_count_sorted_bits K T) := by
  refine okX T.count_sorted_bits_F sc_count_sorted_bits (fun vs H Q E h => ?_) (fun cdv A ou t H vs Q E hG hr h => ?_)
  · obtain ⟨_, _, _, _, _, _, rfl, _⟩ := h; rfl
  have nd := sc_count_sorted_bits.nd
  obtain ⟨n, z, b, ts, ws, cy, rfl, hn2, hS, hC, bd, q⟩ := h
  refine ⟨_, (pss_cons (sset 3 nd (pe_callG (ok_ways_to_go_on T) hG (hr.mono (by decide)) (by rfl) T.ways_to_go_on_g T.ways_to_go_on_F.kp T.ways_to_go_on_b .nil pass0 (pa_cons (pe_callX ((ok_needed_zeros T).lift.or (okx_needed_zeros T)) hG (hr.mono (by decide)) (by rfl) T.needed_zeros_g T.needed_zeros_F.kp T.needed_zeros_b (L2N.takes_of rfl rfl rfl rfl) (pa_cons (pv 0) (pa_cons (pv 1) (pa_cons (pv 2) pa_nil)))) pa_nil)))
      (pss_one (ps_ret (pe_ix (ix_listK K) (pe_ix (ix_listK K) (pv 3) pe_int (fun _ _ => rfl)) pe_int (fun _ _ => rfl))))), ?_⟩
  fail "ww"
  exact .inr ⟨n, z, b, ts, ws, cy, rfl, hn2, hS, hC, bd, q⟩
def sp_nth_sorted_bits (K : PySem.W.Frag) : Sp := fun vs H Q _ => ∃ (n : Nat) (b : Addr) (z k : Nat) (ts : List Addr) (cs : List Cmd), vs = [.int n, .ref b, .int z, .int k] ∧ 1 ≤ n ∧ n ≤ 1000 ∧ z ≤ n ∧ SqL K H b (ts.map V.ref) ∧ Cm H ts cs ∧ Fits n cs ∧ k < Wd (cntN cs n z) n z n 0 ∧
  ∀ (H' : Hp) (p : Addr), Same H H' → H p = none → H' p = some (.lst ((nthD (cntN cs n z) n z n 0 k).map V.int)) → Q (.ref p) H'
theorem ok_nth_sorted_bits (T : Txt K mg) : FnG P w K mg base CX0 7 T.nth_sorted_bits_a T.nth_sorted_bits_d ["size", "commands", "zeros", "number"] (sp_nth_sorted_bits K) := by
  refine okG T.nth_sorted_bits_F sc_nth_sorted_bits (fun vs H Q E h => ?_) (fun cdv A ou t H vs Q E hG hr h => ?_)
  · obtain ⟨_, _, _, _, _, _, rfl, _⟩ := h; rfl
  have nd := sc_nth_sorted_bits.nd
  obtain ⟨n, b, z, k, ts, cs, rfl, hn, hn2, hz, hB, hC, hF, hk, q⟩ := h
  refine ⟨_, (pss_cons (sset 4 nd (pe_callG (ok_ways_to_go_on T) hG (hr.mono (by decide)) (by rfl) T.ways_to_go_on_g T.ways_to_go_on_F.kp T.ways_to_go_on_b .nil pass0 (pa_cons (pe_callG (ok_needed_zeros T) hG (hr.mono (by decide)) (by rfl) T.needed_zeros_g T.needed_zeros_F.kp T.needed_zeros_b .nil pass0 (pa_cons (pv 0) (pa_cons (pv 1) (pa_cons (pv 2) pa_nil)))) pa_nil)))
      (pss_cons (ps_if (PW.pt (pw_or (pt_cmpR op_lt (pv 3) pe_int (nomark _)) (pw_or1 (pt_cmpR op_ge (pv 3) (pe_ix (ix_listK K) (pe_ix (ix_listK K) (pv 4) pe_int (fun _ _ => rfl)) pe_int (fun _ _ => rfl)) (nomark _)))))
        (pss_one ps_never)
        pss_nil)
      (pss_cons (sset 5 nd (pe_lst pa_nil))
      (pss_cons (sset 6 nd pe_int)
      (pss_cons (sset 7 nd (pv 3))
      (pss_cons (ps_for PassesOwn.never rfl (pi_listK K (pe_slice (sl_listK K) (pv 4) (po_some pe_int) po_none)) (gset 8 nd)
        (pss_cons (sset 9 nd (pe_ix (ix_listK K) (pv 8) (pe_op op_add (pv 6) pe_int) (fun _ _ => rfl)))
      (pss_one (ps_if (pt_cmpR op_lt (pv 7) (pv 9) (nomark _))
        (pss_cons (ps_expr (pe_bmK K PySem.F.plainAttrs_list PySem.F.slot_list_append PySem.F.type_list_append mt_append (pv 5) (pa_cons pe_int pa_nil)))
      (pss_one (saug 6 nd pe_int ip_add)))
        (pss_cons (ps_expr (pe_bmK K PySem.F.plainAttrs_list PySem.F.slot_list_append PySem.F.type_list_append mt_append (pv 5) (pa_cons pe_int pa_nil)))
      (pss_one (saug 7 nd (pv 9) ip_sub)))))))
      (pss_one (ps_ret (pv 5))))))))), ?_⟩
  have hG := back_perm_n (List.Perm.refl (ascN n)) hF
  have hN := need_of hG hz
  fail "ww"
  refine ⟨n, b, z, ts, cs, rfl, hn, hn2, hz, hB, hC, hF, fun H1 p s1 np hp => ?_⟩
  fail "ww"
  refine ⟨p, cntN cs n z, n, z, (), rfl, hp, hN.top, hn2, hz, fun H2 p2 as s2 n2 h2 hR => ?_⟩
  have s12 := s1.trans s2
  clear s1 s2 hp np
  generalize cntN cs n z = N at *
  have hl := hR.len
  have hl2 : as.length = n + 1 := by rw [hl]; simp [tabW]
  obtain ⟨t, et, ht⟩ := hR.idx (i := 0) (by simp [tabW])
  have ht' : H2 t = some (.lst ((rowW N n z n).map V.int)) := Rws.row hR et (tab_at (Nat.zero_le _))
  fail "ww"
  rw [decide_eq_false (show ¬ ((k : Nat) : Int) < 0 by omega)]
  fail "ww"
  refine r_ixL (sq h2) (at_of (j := 0) rfl (by rw [List.getElem?_map, et]; rfl)) ?_
  fail "ww"
  refine r_ixL (sq ht') (at_opt (j := 0) rfl (rowW_at (by omega))) ?_
  fail "ww"
  rw [decide_eq_false (show ¬ ((Wd N n z n 0 : Nat) : Int) ≤ ((k : Nat) : Int) by omega)]
  fail "ww"
  refine new_ fun l H3 nl s3 hl3 => ?_
  fail "ww"
  have h23 := s3 _ _ h2
  have hR3 := hR.same s3
  have nl0 := s12.free nl
  refine n_slL (sq h23) ?_
  rw [cut_from (z := 1) (a := 1) rfl, ← List.map_drop]
  refine new_ fun r H4 nr s4 hr => ?_
  fail "ww"
  have hl4 := s4 _ _ hl3
  have hR4 := hR3.same s4
  have hlr : r ≠ l := (ne_of_none hl3 nr).symm
  have hasl : ∀ u ∈ as, u ≠ l := fun u hu e => by
    obtain ⟨i, hi, eu⟩ := List.getElem_of_mem hu
    obtain ⟨c, _, e2⟩ := hR.at_ i u (by rw [List.getElem?_eq_getElem hi, eu])
    rw [e, nl] at e2; cases e2
  have s04 := s12.trans (s3.trans s4)
  clear s3 s4 hR hR3 h23 hl3 h2 ht ht' nl nr n2
  refine forA (walk_list (xs := (as.drop 1).map V.ref)) (fun i σ' H' => ∃ (y9 y10 : Option V) (f m : Nat) (row : List Int), σ' = [some (.int n), some (.ref b), some (.int z), some (.int k), some (.ref p2), some (.ref l), some (.int f), some (.int m), y9, y10] ∧ Sx l H4 H' ∧ Same H H' ∧ H' l = some (.lst (row.map V.int)) ∧ row.length = i ∧ m < Wd N n z (n - i) f ∧ row ++ nthD N n z (n - i) f m = nthD N n z n 0 k)
    ⟨none, none, 0, k, [], rfl, Sx.refl, s04, hl4, rfl, hk, rfl⟩ (fun i σ' H' _ p' => ?_) (fun i σ' H' hi p' => ?_) (fun σ' H' p' => ?_)
  · obtain ⟨_, _, _, _, _, _, s, _⟩ := p'; exact sq (s _ _ hlr hr)
  · clear s04 hl4
    obtain ⟨y9, y10, f, m, row, rfl, sx, s, hl, hrl, hm, he⟩ := p'
    have hi' : i < n := by rw [List.length_map, List.length_drop] at hi; omega
    obtain ⟨t, et, _⟩ := hR4.idx (i := i + 1) (by simp [tabW]; omega)
    have htl := hasl t (List.mem_of_getElem? et)
    have ht : H' t = some (.lst ((rowW N n z (n - (i + 1))).map V.int)) := sx _ _ htl (Rws.row hR4 et (tab_at (by omega)))
    have e1 : ((as.drop 1).map V.ref)[i] = .ref t := by
      have : ((as.drop 1).map V.ref)[i]? = some (.ref t) := by rw [List.getElem?_map, List.getElem?_drop, show 1 + i = i + 1 by omega, et]; rfl
      rw [List.getElem?_eq_getElem hi] at this
      exact Option.some.inj this
    rw [e1]
    have hd : n - i = n - (i + 1) + 1 := by omega
    rw [hd] at hm he
    have hfz : f ≤ z := by
      apply Classical.byContradiction; intro g
      rw [wd_out (by omega)] at hm; omega
    rw [nth_succ] at he
    fail "ww"
    refine r_ixL (sq ht) (at_opt (j := f + 1) (by omega) (rowW_at (by omega))) ?_
    fail "ww"
    refine r_dec (fun g => ?_) (fun g => ?_)
    · rw [if_pos (by omega)] at he
      fail "ww"
      refine r_append hl (by rw [List.length_map, hrl]; exact size_lt (by omega)) ?_
      fail "ww"
      refine ⟨_, _, f + 1, m, row ++ [0], rfl, sx.trans Sx.put, fun b' o' e' => upd_to (ne_of_none e' nl0) (s _ _ e'), by rw [upd_same]; simp, by rw [List.length_append, hrl]; rfl, by omega, by rw [List.append_assoc]; exact he⟩
    · rw [if_neg (by omega)] at he
      have hw : m < Wd N n z (n - (i + 1)) f + Wd N n z (n - (i + 1)) (f + 1) := by
        rw [wd_succ] at hm
        split at hm <;> omega
      fail "ww"
      refine r_append hl (by rw [List.length_map, hrl]; exact size_lt (by omega)) ?_
      fail "ww"
      rw [show ((m : Nat) : Int) - ((Wd N n z (n - (i + 1)) (f + 1) : Nat) : Int) = ((m - Wd N n z (n - (i + 1)) (f + 1) : Nat) : Int) by omega]
      refine ⟨_, _, f, m - Wd N n z (n - (i + 1)) (f + 1), row ++ [1], rfl, sx.trans Sx.put, fun b' o' e' => upd_to (ne_of_none e' nl0) (s _ _ e'), by rw [upd_same]; simp, by rw [List.length_append, hrl]; rfl, by omega, by rw [List.append_assoc]; exact he⟩
  · obtain ⟨y9, y10, f, m, row, rfl, sx, s, hl, hrl, hm, he⟩ := p'
    rw [List.length_map, List.length_drop, hl2, show n + 1 - 1 = n by omega, Nat.sub_self] at he
    rw [show nthD N n z 0 f m = [] from rfl, List.append_nil] at he
    fail "ww"
    exact q _ l s nl0 (by rw [hl, he])
def spx_nth_sorted_bits (K : PySem.W.Frag) (T : Txt K mg) : Sp := fun vs H Q E => ∃ (n z k : Int) (b : Addr) (ts : List Addr) (ws : List Pr) (cy : Addr × V), vs = [.int n, .ref b, .int z, .int k] ∧ n ≤ 1000 ∧ SqL K H b (ts.map V.ref) ∧ Cw H ts ws ∧ BadNth T n z k ws cy.1 cy.2 ∧ Err H E cy.1 cy.2
theorem okx_nth_sorted_bits (T : Txt K mg) : FnG P w K mg base (L2N.CX P w) 7 T.nth_sorted_bits_a T.nth_sorted_bits_d ["size", "commands", "zeros", "number"] (spx_nth_sorted_bits K T) := by
  refine okX T.nth_sorted_bits_F sc_nth_sorted_bits (fun vs H Q E h => ?_) (fun cdv A ou t H vs Q E hG hr h => ?_)
  · obtain ⟨_, _, _, _, _, _, _, rfl, _⟩ := h; rfl
  have nd := sc_nth_sorted_bits.nd
  obtain ⟨n, z, k, b, ts, ws, ⟨c, y⟩, rfl, hn2, hS, hC, bd, q⟩ := h
  refine ⟨_, (pss_cons (sset 4 nd (pe_callG (ok_ways_to_go_on T) hG (hr.mono (by decide)) (by rfl) T.ways_to_go_on_g T.ways_to_go_on_F.kp T.ways_to_go_on_b .nil pass0 (pa_cons (pe_callX ((ok_needed_zeros T).lift.or (okx_needed_zeros T)) hG (hr.mono (by decide)) (by rfl) T.needed_zeros_g T.needed_zeros_F.kp T.needed_zeros_b (L2N.takes_of rfl rfl rfl rfl) (pa_cons (pv 0) (pa_cons (pv 1) (pa_cons (pv 2) pa_nil)))) pa_nil)))
      (pss_cons (ps_if (PW.pt (pw_or (pt_cmpR op_lt (pv 3) pe_int (nomark _)) (pw_or1 (pt_cmpR op_ge (pv 3) (pe_ix (ix_listK K) (pe_ix (ix_listK K) (pv 4) pe_int (fun _ _ => rfl)) pe_int (fun _ _ => rfl)) (nomark _)))))
        (pss_one (ps_raiseV rfl (L2N.takes_of rfl rfl rfl rfl) T.InvalidNumber_E (ini_InvalidNumber T) (hr.mono (by decide)) T.InvalidNumber_i_b (by rfl) (pa_cons (pv 3) pa_nil)))
        pss_nil)
      (pss_cons (sset 5 nd (pe_lst pa_nil))
      (pss_cons (sset 6 nd pe_int)
      (pss_cons (sset 7 nd (pv 3))
      (pss_cons (ps_for (passes_of rfl) rfl (pi_listK K (pe_slice (sl_listK K) (pv 4) (po_some pe_int) po_none)) (gset 8 nd)
        (pss_cons (sset 9 nd (pe_ix (ix_listK K) (pv 8) (pe_op op_add (pv 6) pe_int) (fun _ _ => rfl)))
      (pss_one (ps_if (pt_cmpR op_lt (pv 7) (pv 9) (nomark _))
        (pss_cons (ps_expr (pe_bmK K PySem.F.plainAttrs_list PySem.F.slot_list_append PySem.F.type_list_append mt_append (pv 5) (pa_cons pe_int pa_nil)))
      (pss_one (saug 6 nd pe_int ip_add)))
        (pss_cons (ps_expr (pe_bmK K PySem.F.plainAttrs_list PySem.F.slot_list_append PySem.F.type_list_append mt_append (pv 5) (pa_cons pe_int pa_nil)))
      (pss_one (saug 7 nd (pv 9) ip_sub)))))))
      (pss_one (ps_ret (pv 5))))))))), ?_⟩
  fail "ww"
  rcases bd with bd | ⟨m, v, cs, rfl, rfl, h1, hv, hf, ew, hk, e1, e2⟩
  · exact .inr ⟨n, z, b, ts, ws, (c, y), rfl, hn2, hS, hC, bd, q⟩
  · obtain rfl : c = _ := e1
    obtain rfl : y = _ := e2
    have hM : Cm H ts cs := (ew ▸ hC : Cw H ts (cs.map toW)).toCm
    refine .inl ⟨m, b, v, ts, cs, rfl, by omega, by omega, hv, hS, hM, hf, fun H1 p s1 np hp => ?_⟩
    have hG := back_perm_n (List.Perm.refl (ascN m)) hf
    have hN := need_of hG hv
    refine ⟨p, cntN cs m v, m, v, (), rfl, hp, hN.top, by omega, hv, fun H2 p2 as s2 n2 h2 hR => ?_⟩
    have s12 := s1.trans s2
    clear s1 s2 hp np
    have hl := hR.len
    obtain ⟨t, et, ht⟩ := hR.idx (i := 0) (by simp [tabW])
    have ht' : H2 t = some (.lst ((rowW (cntN cs m v) m v m).map V.int)) := Rws.row hR et (tab_at (Nat.zero_le _))
    fail "ww"
    by_cases h0 : k < 0
    · rw [decide_eq_true h0]
      fail "ww"
      exact fun d hd => q _ d s12 hd
    · rw [decide_eq_false h0]
      fail "ww"
      refine r_ixL (sq h2) (at_of (j := 0) rfl (by rw [List.getElem?_map, et]; rfl)) ?_
      fail "ww"
      refine r_ixL (sq ht') (at_opt (j := 0) rfl (rowW_at (by omega))) ?_
      fail "ww"
      rw [decide_eq_true (show ((Wd (cntN cs m v) m v m 0 : Nat) : Int) ≤ k by omega)]
      fail "ww"
      exact fun d hd => q _ d s12 hd
def sp_changes (K : PySem.W.Frag) : Sp := fun vs H Q _ => ∃ (n : Nat) (b : Addr) (ts : List Addr) (cs : List Cmd), vs = [.int n, .ref b] ∧ 1 ≤ n ∧ n ≤ 1000 ∧ SqL K H b (ts.map V.ref) ∧ Cm H ts cs ∧ cs.length ≤ 100000 ∧ Fits n cs ∧
  ∀ (H' : Hp) (p : Addr) (us : List Addr), Same H H' → H p = none → H' p = some (.lst (us.map V.ref)) → Chg H' us n cs → Q (.ref p) H'
theorem ok_changes (T : Txt K mg) : FnG P w K mg base CX0 9 T.changes_a T.changes_d ["size", "commands"] (sp_changes K) := by
  refine okG T.changes_F sc_changes (fun vs H Q E h => ?_) (fun cdv A ou t H vs Q E hG hr h => ?_)
  · obtain ⟨_, _, _, _, rfl, _⟩ := h; rfl
  have nd := sc_changes.nd
  obtain ⟨n, b, ts, cs, rfl, hn1, hn2, hB, hC, hc2, hF, q⟩ := h
  refine ⟨_, (pss_cons (ps_expr (pe_callG (ok_check_size T) hG (hr.mono (by decide)) (by rfl) T.check_size_g T.check_size_F.kp T.check_size_b .nil pass0 (pa_cons (pv 0) pa_nil)))
      (pss_cons (sset 2 nd (pe_callG (ok_descending_row T) hG (hr.mono (by decide)) (by rfl) T.descending_row_g T.descending_row_F.kp T.descending_row_b .nil pass0 (pa_cons (pv 0) pa_nil)))
      (pss_cons (sset 3 nd (pe_listG (k := 5) (pgen_call (okg_stages T) (hr.mono (j := 5) (by decide)) (by rfl) T.stages_g T.stages_F.kp T.stages_b .nil (pa_cons (pv 2) (pa_cons (pv 1) pa_nil))) passG noStop0 (hr.mono (j := 8) (by decide)) (by rfl) T.m_list (by decide +kernel)))
      (pss_one (ps_ret (pe_listZipK K rfl (by rfl) T.m_list (by rfl) T.m_zip (pa_cons (pv 3) (pa_cons (pe_slice (sl_listK K) (pv 3) (po_some pe_int) po_none) pa_nil)))))))), ?_⟩
  have hdl := desc_len n
  fail "g"
  refine ⟨n, rfl, hn1, ?_⟩
  fail "g"
  refine ⟨n, rfl, hn2, fun H1 d s1 hd0 hd => ?_⟩
  fail "g"
  refine ⟨d, b, desc n, ts, cs, rfl, sq hd, s1.seq hB, hC.same s1, by omega, by omega, hc2, by rw [hdl]; exact hF, fun H2 rs s2 hR => ?_⟩
  intro p np
  have hp2 : H2 p = none := np
  have s3 := s2.trans (same_new (o := .lst (rs.map V.ref)) hp2)
  have hP : upd H2 p (.lst (rs.map V.ref)) p = some (.lst (rs.map V.ref)) := upd_same
  have hR3 : ∀ i c, rs[i]? = some c → upd H2 p (.lst (rs.map V.ref)) c = some (.lst ((runM (desc n) (cs.take i)).map V.int)) := fun i c e => upd_old hp2 (hR.at_ i c e).2
  generalize upd H2 p (.lst (rs.map V.ref)) = H3 at *
  fail "g"
  intro l0 n0
  have hl0 : H3 l0 = none := n0
  rw [cut_from (by rfl : (1 : Int) = ((1 : Nat) : Int))] at *
  fail "g"
  refine ⟨p, l0, rs.map V.ref, (rs.map V.ref).drop 1, rfl, sq (upd_old hl0 hP), sq upd_same, fun us H4 u s4 pr hl hu hU => ?_⟩
  have s5 := (same_new (o := .lst ((rs.map V.ref).drop 1)) hl0).trans s4
  refine q H4 u us (s1.trans (s3.trans s5)) (gone (s1.trans (s3.trans (same_new (o := .lst ((rs.map V.ref).drop 1)) hl0))) hu) hU ⟨?_, fun i t e => ?_⟩
  · rw [hl, List.length_drop, List.length_map, hR.len]; omega
  · obtain ⟨_, x, y, e1, e2, e3⟩ := pr.at_ i t e
    rw [List.getElem?_map] at e1
    rw [List.getElem?_drop, List.getElem?_map] at e2
    cases g1 : rs[i]? with
    | none => rw [g1] at e1; cases e1
    | some r =>
      cases g2 : rs[1 + i]? with
      | none => rw [g2] at e2; cases e2
      | some r' =>
        rw [g1] at e1
        rw [g2] at e2
        cases e1
        cases e2
        exact ⟨r, r', e3, s5 _ _ (hR3 i r g1), by rw [Nat.add_comm]; exact s5 _ _ (hR3 (1 + i) r' g2)⟩
def spx_changes (K : PySem.W.Frag) (T : Txt K mg) : Sp := fun vs H Q E => ∃ (n : Int) (b : Addr) (ts : List Addr) (ws : List Pr) (cy : Addr × V), vs = [.int n, .ref b] ∧ n ≤ 1000 ∧ SqL K H b (ts.map V.ref) ∧ Cw H ts ws ∧ BadRun T n ws cy.1 cy.2 ∧ Err H E cy.1 cy.2
theorem okx_changes (T : Txt K mg) : FnG P w K mg base (L2N.CX P w) 9 T.changes_a T.changes_d ["size", "commands"] (spx_changes K T) := by
  refine okX T.changes_F sc_changes (fun vs H Q E h => ?_) (fun cdv A ou t H vs Q E hG hr h => ?_)
  · obtain ⟨_, _, _, _, _, rfl, _⟩ := h; rfl
  have nd := sc_changes.nd
  obtain ⟨n, b, ts, ws, ⟨c, y⟩, rfl, hn2, hS, hC, bd, q⟩ := h
  refine ⟨_, (pss_cons (ps_expr (pe_callX ((ok_check_size T).lift.or (okx_check_size T)) hG (hr.mono (by decide)) (by rfl) T.check_size_g T.check_size_F.kp T.check_size_b (L2N.takes_of rfl rfl rfl rfl) (pa_cons (pv 0) pa_nil)))
      (pss_cons (sset 2 nd (pe_callG (ok_descending_row T) hG (hr.mono (by decide)) (by rfl) T.descending_row_g T.descending_row_F.kp T.descending_row_b .nil pass0 (pa_cons (pv 0) pa_nil)))
      (pss_cons (sset 3 nd (pe_either (pe_listG (k := 5) (pgen_call (okg_stages T) (hr.mono (j := 5) (by decide)) (by rfl) T.stages_g T.stages_F.kp T.stages_b .nil (pa_cons (pv 2) (pa_cons (pv 1) pa_nil))) passG noStop0 (hr.mono (j := 8) (by decide)) (by rfl) T.m_list (by decide +kernel)) (pe_listXK K (k := 5) (okgx_stages T) hG (hr.mono (j := 8) (by decide)) (by rfl) T.stages_g T.stages_F.kp T.stages_b (L2N.takes_of rfl rfl rfl rfl) (pa_cons (pv 2) (pa_cons (pv 1) pa_nil)) (by rfl) T.m_list (by decide +kernel))))
      (pss_one (ps_ret (pe_listZipK K rfl (by rfl) T.m_list (by rfl) T.m_zip (pa_cons (pv 3) (pa_cons (pe_slice (sl_listK K) (pv 3) (po_some pe_int) po_none) pa_nil)))))))), ?_⟩
  fail "ww"
  rcases bd with ⟨hn, e1, e2⟩ | ⟨hn, i, hi, e1, e2⟩
  · obtain rfl : c = _ := e1
    obtain rfl : y = _ := e2
    exact .inr ⟨n, rfl, hn, q⟩
  · obtain rfl : c = _ := e1
    obtain rfl : y = _ := e2
    obtain ⟨m, rfl⟩ := Int.eq_ofNat_of_zero_le (show 0 ≤ n by omega)
    refine .inl ⟨m, rfl, by omega, ?_⟩
    fail "ww"
    refine ⟨m, rfl, by omega, fun H1 d s1 nd hd => ?_⟩
    fail "ww"
    refine .inr ?_
    fail "ww"
    have hl : (desc m).length = m := desc_len m
    exact ⟨d, b, desc m, ts, ws, (T.InvalidCommand_a, .int i), rfl, sq hd, s1.seq hS, hC.same s1, .inr ⟨by rw [hl]; exact hn, i, by rw [hl]; exact hi, rfl, rfl⟩, fun H' d' s' hd' => ⟨T.InvalidCommand_st, q H' d' (s1.trans s') hd'⟩⟩
def sp_trimmed (K : PySem.W.Frag) : Sp := fun vs H Q _ => ∃ (n : Nat) (b : Addr) (ts : List Addr) (cs : List Cmd), vs = [.int n, .ref b] ∧ 1 ≤ n ∧ n ≤ 1000 ∧ SqL K H b (ts.map V.ref) ∧ Cm H ts cs ∧ cs.length ≤ 100000 ∧ Fits n cs ∧
  ∀ (H' : Hp) (p : Addr) (us : List Addr), Same H H' → H p = none → H' p = some (.lst (us.map V.ref)) → (∀ t ∈ us, H t = none) → Cm H' us (trimR (desc n) cs) → Q (.ref p) H'
theorem ok_trimmed (T : Txt K mg) : FnG P w K mg base CX0 10 T.trimmed_a T.trimmed_d ["size", "commands"] (sp_trimmed K) := by
  refine okG T.trimmed_F sc_trimmed (fun vs H Q E h => ?_) (fun cdv A ou t H vs Q E hG hr h => ?_)
  · obtain ⟨_, _, _, _, rfl, _⟩ := h; rfl
  have nd := sc_trimmed.nd
  obtain ⟨n, b, ts, cs, rfl, hn1, hn2, hB, hC, hc2, hF, q⟩ := h
  refine ⟨_, (pss_one (ps_ret (pe_lc (own := [("before", 2), ("after", 3)]) (hc := rfl) (hN := nd) (hi := (pi_listK K (pe_callG (ok_changes T) hG (hr.mono (by decide)) (by rfl) T.changes_g T.changes_F.kp T.changes_b .nil pass0 (pa_cons (pv 0) (pa_cons (pv 1) pa_nil))))) (ok := blkOk_by (by rfl)) (hg := fun _ _ _ _ _ => (pg_tupK K 2 rfl (pgs_cons (gset 2 nd) (pgs_cons (gset 3 nd) pgs_nil)))) (ht := (fun _ _ _ _ _ => pts_one (pt_cmpR (neDK K hr.units) (pv 2) (pv 3) (nomark _)))) (he := fun _ _ _ _ _ => (pe_callG (ok_changed_stretch T) hG (hr.mono (by decide)) (by rfl) T.changed_stretch_g T.changed_stretch_F.kp T.changed_stretch_b .nil pass0 (pa_cons (pv 2) (pa_cons (pv 3) pa_nil))))))), ?_⟩
  fail "ww"
  refine ⟨n, b, ts, cs, rfl, hn1, hn2, hB, hC, hc2, hF, fun H1 p us s1 hp hP hU => ?_⟩
  fail "ww"
  intro D nD
  refine lc_it (walk_list (xs := us.map V.ref)) (fun i Hi => CmF H1 D (trimR (desc n) (cs.take i)) Hi) (cmf_nil nD) (fun i Hi _ pp => ?_) (fun i x Hi Hi' hi pp y => ?_) (fun H2 pp => ?_)
  · obtain ⟨_, _, sj, _⟩ := pp; fail "kp"
  · obtain ⟨rfl, ey⟩ := y
    have p0 := pp
    obtain ⟨_, _, sj, _⟩ := pp
    have hi' : i < us.length := by simpa using hi
    have hic : i < cs.length := by rw [← hU.len]; exact hi'
    rw [List.getElem?_map, List.getElem?_eq_getElem hi'] at ey
    cases ey
    obtain ⟨ra, rb, g1, g2, g3⟩ := hU.at_ i us[i] (List.getElem?_eq_getElem hi')
    have f1 : Hi' us[i] = some (.tup [.ref ra, .ref rb]) := sj _ _ g1
    have f2 : Hi' ra = some (.lst ((runM (desc n) (cs.take i)).map V.int)) := sj _ _ g2
    have f3 : Hi' rb = some (.lst ((runM (desc n) (cs.take (i + 1))).map V.int)) := sj _ _ g3
    have hc := hF cs[i] (List.getElem_mem hic)
    have hlr : (runM (desc n) (cs.take i)).length = n := perm_len (run_perm_n (desc_perm n) hF.take)
    rw [take_one hic, runM_snoc] at f3
    rw [take_one hic, trimR_snoc]
    have htl : (trimR (desc n) (cs.take i)).length ≤ 100000 := Nat.le_trans (trimR_len _ _) (by rw [List.length_take]; omega)
    have hls : (step (runM (desc n) (cs.take i)) cs[i]).length = n := (seg_len hc.2.1 (by rw [hlr]; exact hc.2.2)).trans hlr
    generalize trimR (desc n) (cs.take i) = es at *
    generalize runM (desc n) (cs.take i) = r at *
    generalize step r cs[i] = r2 at *
    fail "ww"
    refine ⟨rfl, ?_⟩
    fail "ww"
    refine r_neL (ns := r) (ms := r2) (sq f2) (sq f3) ?_
    fail "ww"
    refine r_ndec (fun he => ?_) (fun he => ?_)
    · rw [if_neg he]
      fail "ww"
      refine ⟨ra, rb, r, r2, rfl, sq f2, sq f3, by omega, by omega, he, fun H3 p3 s3 n3 h3 => ?_⟩
      exact cmf_put p0 nD htl s3 n3 h3
    · rw [if_pos he, List.append_nil]
      exact p0
  · rw [List.length_map, hU.len, List.take_of_length_le (Nat.le_refl _)] at pp
    obtain ⟨es, hD, s2, hfe, hE⟩ := pp
    exact q _ D es (s1.trans s2) (s1.free nD) hD (fun t ht => s1.free (hfe t ht).1) hE
def spx_trimmed (K : PySem.W.Frag) (T : Txt K mg) : Sp := fun vs H Q E => ∃ (n : Int) (b : Addr) (ts : List Addr) (ws : List Pr) (cy : Addr × V), vs = [.int n, .ref b] ∧ n ≤ 1000 ∧ SqL K H b (ts.map V.ref) ∧ Cw H ts ws ∧ BadRun T n ws cy.1 cy.2 ∧ Err H E cy.1 cy.2
theorem okx_trimmed (T : Txt K mg) : FnG P w K mg base (L2N.CX P w) 10 T.trimmed_a T.trimmed_d ["size", "commands"] (spx_trimmed K T) := by
  refine okX T.trimmed_F sc_trimmed (fun vs H Q E h => ?_) (fun cdv A ou t H vs Q E hG hr h => ?_)
  · obtain ⟨_, _, _, _, _, rfl, _⟩ := h; rfl
  have nd := sc_trimmed.nd
  obtain ⟨n, b, ts, ws, cy, rfl, hn2, hS, hC, bd, q⟩ := h
  refine ⟨_, (pss_one (ps_ret (pe_lc (own := [("before", 2), ("after", 3)]) (hc := rfl) (hN := nd) (hi := (pi_listK K (pe_callX ((ok_changes T).lift.or (okx_changes T)) hG (hr.mono (by decide)) (by rfl) T.changes_g T.changes_F.kp T.changes_b (L2N.takes_of rfl rfl rfl rfl) (pa_cons (pv 0) (pa_cons (pv 1) pa_nil))))) (ok := blkOk_by (by rfl)) (hg := fun _ _ _ _ _ => (pg_tupK K 2 rfl (pgs_cons (gset 2 nd) (pgs_cons (gset 3 nd) pgs_nil)))) (ht := (fun _ _ _ _ _ => pts_one (pt_cmpR (neDK K hr.units) (pv 2) (pv 3) (nomark _)))) (he := fun _ _ _ _ _ => (pe_callG (ok_changed_stretch T) hG (hr.mono (by decide)) (by rfl) T.changed_stretch_g T.changed_stretch_F.kp T.changed_stretch_b .nil pass0 (pa_cons (pv 2) (pa_cons (pv 3) pa_nil))))))), ?_⟩
  fail "ww"
  exact .inr ⟨n, b, ts, ws, cy, rfl, hn2, hS, hC, bd, q⟩
def spv_results (K : PySem.W.Frag) : SpV := fun vs H C => ∃ (n : Nat) (b : Addr) (ts : List Addr) (cs : List Cmd), vs = [.int n, .ref b] ∧ 1 ≤ n ∧ n ≤ 1000 ∧ cs.length ≤ 100000 ∧ Fits n cs ∧ C (resV K n b ts cs) none
theorem okv_results (T : Txt K mg) : GFnV P w K mg base 11 T.results_a T.results_d ["size", "commands"] (spv_results K) := by
  refine okGV T.results_F sc_results (fun _ => rfl) (fun vs H C h => ?_) (fun vs H C h => ?_)
  · obtain ⟨_, _, _, _, rfl, _⟩ := h; rfl
  have nd := sc_results.nd
  obtain ⟨n, b, ts, cs, rfl, hn1, hn2, hc2, hF, hC⟩ := h
  refine ⟨resV K n b ts cs, none, hC, fun cdv A ou t E hG hr => ?_⟩
  refine ⟨_, (gvs_cons (gv_ps (fun _ _ z => z) (fun _ => (sset 2 nd (pe_callG (ok_trimmed T) hG (hr.mono (by decide)) (by rfl) T.trimmed_g T.trimmed_F.kp T.trimmed_b .nil pass0 (pa_cons (pv 0) (pa_cons (pv 1) pa_nil))))))
      (gvs_cons (gv_ps (fun _ _ z => z) (fun _ => (sset 3 nd (pe_listRg rfl (by rfl) T.m_list (prg_2 (by rfl) T.m_range pe_int (pe_op op_add (pv 0) pe_int))))))
      (gvs_cons (gv_while (fun _ _ z => z) (fun _ => (pt_cmpR op_notN (pv 3) pe_non (nomark _)))
        (gvs_cons (gv_ps (fun _ _ z => z) (fun _ => (sset 4 nd (pe_callG (ok_next_arrangement T) hG (hr.mono (by decide)) (by rfl) T.next_arrangement_g T.next_arrangement_F.kp T.next_arrangement_b .nil pass0 (pa_cons (pv 3) pa_nil)))))
      (gvs_cons (gv_if (fun _ _ z => z) (fun _ => (pt_val (pe_callG (ok_is_result T) hG (hr.mono (by decide)) (by rfl) T.is_result_g T.is_result_F.kp T.is_result_b .nil pass0 (pa_cons (pv 3) (pa_cons (pv 2) pa_nil)))))
        (gvs_cons (gv_yield (fun _ _ z => z) (fun _ => (pv 3)))
      gvs_nil)
        gvs_nil)
      (gvs_cons (gv_ps (fun _ _ z => z) (fun _ => (sset 3 nd (pv 4))))
      gvs_nil))))
      gvs_nil))), fun H2 st => ?_⟩
  obtain ⟨_, hB, hCm⟩ := st
  fail "ww"
  refine ⟨n, b, ts, cs, rfl, hn1, hn2, hB, hCm, hc2, hF, fun H3 sh us s3 nsh hsh hus hU => ?_⟩
  fail "ww"
  refine ⟨RgOk.of_le (by omega) (by omega) (by omega) (by omega), new_map (rg_ascN n) (new_ fun p H4 np s4 hp => ?_)⟩
  fail "ww"
  obtain ⟨L, hL⟩ : ∃ L : Nat, L = (arrM n n).length := ⟨_, rfl⟩
  refine r_vwhile (fun m u σ' H' => ∃ (sh : Addr) (us : List Addr) (j : Nat) (v : V) (y4 : Option V), σ' = [some (.int (n : Int)), some (.ref b), some (.ref sh), some v, y4] ∧ j + m = L ∧ u.1 = resN n cs j ∧ Same u.2.2 H' ∧ H' sh = some (.lst (us.map V.ref)) ∧ Cm H' us (trimR (desc n) cs) ∧ RowS H' v (arrM n n)[j]? ∧ Orig u.2.1 u.2.2 sh us v) L
    ⟨sh, us, 0, .ref p, none, rfl, Nat.zero_add _, rfl, s3.trans s4, s4 _ _ hsh, hU.same s4, ?_, nsh, hus, fun q hq => ?_⟩ (fun m u σ' H' pp => ?_)
  · rw [arr_first]; exact ⟨p, rfl, hp⟩
  · cases hq; exact s3.free np
  · clear hsh hU np hp s3 s4 hus nsh hB hCm
    obtain ⟨sh, us, j, v, y4, rfl, hjm, hu, su, hsh, hU, hv, hO⟩ := pp
    fail "ww"
    cases er : (arrM n n)[j]? with
    | none =>
      rw [er] at hv
      obtain rfl : v = .non := hv
      fail "ww"
      refine ⟨rfl, ?_⟩
      rw [decide_eq_true rfl]
      fail "ww"
      exact ⟨hu.trans (resN_end er), su⟩
    | some r =>
      rw [er] at hv
      obtain ⟨a, rfl, ha⟩ := hv
      have hrp := arrm_perm (List.mem_of_getElem? er)
      have hrl := perm_len hrp
      have hjl : j < (arrM n n).length := (List.getElem?_eq_some_iff.mp er).1
      fail "ww"
      refine ⟨rfl, ?_⟩
      rw [decide_eq_false (by intro z; cases z)]
      fail "ww"
      refine ⟨_, fun _ _ _ h => h, ?_⟩
      fail "ww"
      refine ⟨a, r, rfl, sq ha, arr_nodup hrp, by omega, by omega, fun H5 w o s5 ho hw => ?_⟩
      have hno : o = (arrM n n)[j + 1]? := next_is er ho
      subst hno
      have hw0 := hw.fresh su
      have hwS := hw.st
      have sh5 := s5 _ _ hsh
      have hU5 := hU.same s5
      have ha5 := s5 _ _ ha
      have su5 := su.trans s5
      clear hsh hU ha su s5 hw ho
      fail "ww"
      refine ⟨sh, a, r, n, us, trimR (desc n) cs, rfl, sq sh5, sq ha5, hrp, hn1, hn2, hU5, (trim_eff hF).2, fun H6 s6 => ?_⟩
      rw [decide_eq_decide.mpr (made_trim hn1 hrp hF)]
      have hwS6 := hwS.same s6
      have sh6 := s6 _ _ sh5
      have hU6 := hU5.same s6
      have ha6 := s6 _ _ ha5
      have su6 := su5.trans s6
      fail "ww"
      refine r_dec (fun hm => ?_) (fun hm => ?_)
      · obtain ⟨e1, e2⟩ := resN_take er hm
        fail "ww"
        refine ⟨some (sh, us, j + 1, w), ?_, ⟨sh, us, j + 1, w, a, r, rfl, rfl, su6, by rw [hu]; exact e2, ha6, sh6, hU6, hwS6, by rw [e1, hu], hO, hw0⟩, fun H7 st7 => ?_⟩
        · rw [hu]
          exact (List.getElem?_eq_some_iff.mp e2).1
        · obtain ⟨z1, z2, z3, z4⟩ := st7
          fail "ww"
          exact ⟨m - 1, by omega, sh, us, j + 1, w, _, rfl, by omega, z1, Same.refl _, z2, z3, z4, rfl, rfl, .inl rfl⟩
      · fail "ww"
        exact ⟨m - 1, by omega, sh, us, j + 1, w, _, rfl, by omega, by rw [hu, resN_skip er hm], su6, sh6, hU6, hwS6, hO.next hw0⟩
def spg_results (K : PySem.W.Frag) (T : Txt K mg) : SpX := fun vs H E => ∃ (n : Int) (b : Addr) (ts : List Addr) (ws : List Pr) (cy : Addr × V), vs = [.int n, .ref b] ∧ n ≤ 1000 ∧ SqL K H b (ts.map V.ref) ∧ Cw H ts ws ∧ BadRun T n ws cy.1 cy.2 ∧ Err H E cy.1 cy.2
theorem okgx_results (T : Txt K mg) : GFnX P w K mg base 11 T.results_a T.results_d ["size", "commands"] (spg_results K T) := by
  refine okGX T.results_F sc_results (fun vs H E h => ?_) rfl (fun cdv A ou t H vs E pn hG hr h => ?_)
  · obtain ⟨_, _, _, _, _, rfl, _⟩ := h; rfl
  have nd := sc_results.nd
  obtain ⟨n, b, ts, ws, cy, rfl, hn2, hS, hC, bd, q⟩ := h
  refine ⟨_, (sset 2 nd (pe_callX ((ok_trimmed T).lift.or (okx_trimmed T)) hG (hr.mono (by decide)) (by rfl) T.trimmed_g T.trimmed_F.kp T.trimmed_b takes_gcxN (pa_cons (pv 0) (pa_cons (pv 1) pa_nil)))), ?_⟩
  fail "ww"
  exact .inr ⟨n, b, ts, ws, cy, rfl, hn2, hS, hC, bd, q⟩
def sp_law_caught (K : PySem.W.Frag) : Sp := fun vs H Q _ => ∃ (which : Nat) (n z k : Int) (b : Addr) (ts : List Addr) (ws : List Pr) (_u : Unit), vs = [.int which, .int n, .ref b, .int z, .int k] ∧ which < 4 ∧ n ≤ 6 ∧ (k < 0 ∨ 100 ≤ k) ∧ H b = some (.lst (ts.map V.ref)) ∧ Cw H ts ws ∧ ws.length ≤ 1000 ∧
  ∀ (H' : Hp) (v : V), Same H H' → TrV H H' v (dqS which n z k ws) → Q v H'
theorem ok_law_caught (T : Txt K mg) : FnG P w K mg base CX0 15 T.law_caught_a T.law_caught_d ["which", "many", "moves", "nought", "spot"] (sp_law_caught K) := by
  refine okG T.law_caught_F sc_law_caught (fun vs H Q E h => ?_) (fun cdv A ou t H vs Q E hG hr h => ?_)
  · obtain ⟨_, _, _, _, _, _, _, _, rfl, _⟩ := h; rfl
  have nd := sc_law_caught.nd
  obtain ⟨which, n, z, k, b, ts, ws, _, rfl, hwh, hn, hk, hB, hC, hwl, q⟩ := h
  refine ⟨_, (pss_cons (sset 5 nd (pe_lst pa_nil))
      (pss_cons (L2N.ps_try_as (i := 7) rfl rfl nd rfl rfl ⟨rfl, by decide, .inl T.SortError_g⟩ takesN0 (fun W pn xe tk po => (pss_one (ps_if (pt_cmpR op_eq (pv 0) pe_int (nomark _))
        (pss_one (ps_expr (pe_callX ((ok_count_sorted_bits T).lift.or (okx_count_sorted_bits T)) hG (hr.mono (by decide)) (by rfl) T.count_sorted_bits_g T.count_sorted_bits_F.kp T.count_sorted_bits_b tk (pa_cons (pv 1) (pa_cons (pv 2) (pa_cons (pv 3) pa_nil))))))
        (pss_one (ps_if (pt_cmpR op_eq (pv 0) pe_int (nomark _))
        (pss_one (ps_expr (pe_callX ((ok_nth_sorted_bits T).lift.or (okx_nth_sorted_bits T)) hG (hr.mono (by decide)) (by rfl) T.nth_sorted_bits_g T.nth_sorted_bits_F.kp T.nth_sorted_bits_b tk (pa_cons (pv 1) (pa_cons (pv 2) (pa_cons (pv 3) (pa_cons (pv 4) pa_nil)))))))
        (pss_one (ps_if (pt_cmpR op_eq (pv 0) pe_int (nomark _))
        (pss_one (ps_expr (pe_callX ((ok_count_sorted T).lift.or (okx_count_sorted T)) hG (hr.mono (by decide)) (by rfl) T.count_sorted_g T.count_sorted_F.kp T.count_sorted_b tk (pa_cons (pv 1) (pa_cons (pv 2) pa_nil)))))
        (pss_one (ps_either (ps_forV (k := 11) rfl hG (hr.mono (j := 12) (by decide)) (pgen_call (k := 11) (okv_results T) (hr.mono (j := 11) (by decide)) (by rfl) T.results_g T.results_F.kp T.results_b (pa_cons (pv 1) (pa_cons (pv 2) pa_nil))) (gset 6 nd)
        (pss_one (ps_expr (pe_bmK K PySem.F.plainAttrs_list PySem.F.slot_list_append PySem.F.type_list_append mt_append (pv 5) (pa_cons (pv 6) pa_nil)))))
        (ps_forXK K (k := 11) (okgx_results T) po hG (hr.mono (j := 12) (by decide)) (by rfl) T.results_g T.results_F.kp T.results_b tk (pa_cons (pv 1) (pa_cons (pv 2) pa_nil))))))))))))
        (fun a oe cls d pn hz hf => (pss_one (ps_ret (pe_tup (pa_cons (pe_callES (okE_law_kind T) hz hf hG (hr.mono (by decide)) (by rfl) T.law_kind_g T.law_kind_F.kp T.law_kind_b (pa_cons (pv 7) pa_nil)) (pa_cons (pe_xfS hz hf (pv 7)) (pa_cons (pe_callB (lenK K) (by rfl) T.m_len PySem.boot_len (pa_cons (pv 5) pa_nil)) pa_nil))))))))
      (pss_one (ps_ret pe_non)))), ?_⟩
  fail "ww"
  refine new_ fun R H1 nR s1 hR => ?_
  fail "ww"
  have fin : ∀ (c : Addr) (j : Nat) (i : Int), PySem.W.exmOne K (.ref c) (.ref T.SortError_a) = some true → Kd3 K T c j → dqS which n z k ws = some (wordsD.getD j "", i) → Err H1 (fun cls d H' => wAs K (.ref T.SortError_a) 7 (fun a cls d => tRet (tTup (tCons (tCallE (spe_law_kind K T a cls d) (tCons (tVar 7) tNil)) (tCons (tXfA K a cls d "value" (tVar 7)) (tCons (tCB (Xk.rLen K) (tCons (tVar 5) tNil)) tNil))))) (fun _ _ _ _ => False) { nx := tRet (tC .non) { nx := fun _ H' => Q V.non H', rt := Q }, rt := Q } cls d ((L2.start ["which", "many", "moves", "nought", "spot", "rows", "cells", "e"] [V.int which, V.int n, V.ref b, V.int z, V.int k]).set 5 (some (.ref R))) H') c (.int i) := fun c j i te kd e H' d s hd' => by
    refine ⟨true, te, fun _ x hx => ?_, fun z => by cases z⟩
    fail "ww"
    refine ⟨c, d, j, .int i, rfl, rfl, rfl, upd_same, kd, fun H2 s2 => ?_⟩
    have s02 := (s.trans (same_new hd')).trans s2
    fail "ww"
    refine ⟨rfl, c, d, _, .int i, rfl, rfl, kd.xf, kd.no, s2 _ _ upd_same, rfl, ?_⟩
    fail "ww"
    refine new_ fun p H3 n3 s3 h3 => ?_
    have s0 := s1.trans s02
    refine q _ _ (s0.trans s3) ?_
    rw [e]
    exact ⟨p, rfl, s0.free n3, h3⟩
  have hB1 := s1 _ _ hB
  have hC1 := hC.same s1
  have hbad : (∃ (c : Addr) (j : Nat) (i : Int), PySem.W.exmOne K (.ref c) (.ref T.SortError_a) = some true ∧ Kd3 K T c j ∧ dqS which n z k ws = some (wordsD.getD j "", i) ∧ BadRun T n ws c (.int i) ∧ NoSt K (.ref c)) ∨
      (∃ (m : Nat) (cs : List Cmd), n = (m : Int) ∧ 1 ≤ m ∧ Fits m cs ∧ ws = cs.map toW ∧ eW n ws = none) := by
    by_cases hm : n < 1
    · exact .inl ⟨_, _, _, T.InvalidSize_E.te, kd_size T, by unfold dqS; rw [if_pos hm]; rfl, .inl ⟨hm, rfl, rfl⟩, T.InvalidSize_st⟩
    · rcases first_cases (wrW n ws) ws.length with ⟨i, e, _⟩ | ⟨e, _⟩
      · have e : eW n ws = some i := e
        exact .inl ⟨_, _, _, T.InvalidCommand_E.te, kd_command T, by unfold dqS dqC; rw [if_neg hm, e]; rfl, .inr ⟨by omega, i, e, rfl, rfl⟩, T.InvalidCommand_st⟩
      · have e : eW n ws = none := e
        obtain ⟨r, rfl⟩ := Int.eq_ofNat_of_zero_le (show 0 ≤ n by omega)
        obtain ⟨cs, hf, ew⟩ := fits_cmds (n := r) (eW_fits e)
        exact .inr ⟨r, cs, rfl, by omega, hf, ew, e⟩
  have hw4 : which = 0 ∨ which = 1 ∨ which = 2 ∨ which = 3 := by omega
  rcases hbad with ⟨c, j, i, te, kd, e, bd, st⟩ | ⟨m, cs, rfl, hm1, hf, ew, heW⟩
  · have fn := fin c j i te kd e
    rcases hw4 with rfl | rfl | rfl | rfl
    · refine r_itD (by decide) ?_
      fail "ww"
      exact .inr ⟨n, z, b, ts, ws, (c, .int i), rfl, by omega, sq hB1, hC1, .inl bd, fn⟩
    · refine r_itDF (by decide) ?_
      fail "ww"
      refine r_itD (by decide) ?_
      fail "ww"
      exact .inr ⟨n, z, k, b, ts, ws, (c, .int i), rfl, by omega, sq hB1, hC1, .inl (.inl bd), fn⟩
    · refine r_itDF (by decide) ?_
      fail "ww"
      refine r_itDF (by decide) ?_
      fail "ww"
      refine r_itD (by decide) ?_
      fail "ww"
      exact .inr ⟨n, b, ts, ws, (c, .int i), rfl, by omega, sq hB1, hC1, bd, fn⟩
    · refine r_itDF (by decide) ?_
      fail "ww"
      refine r_itDF (by decide) ?_
      fail "ww"
      refine r_itDF (by decide) ?_
      fail "ww"
      refine .inr ?_
      fail "ww"
      exact ⟨n, b, ts, ws, (c, .int i), rfl, by omega, sq hB1, hC1, bd, fun H' d s hd => ⟨st, fn H' d s hd⟩⟩
  · have hM1 : Cm H1 ts cs := (ew ▸ hC1 : Cw H1 ts (cs.map toW)).toCm
    have dq : dqS which m z k ws = dqZ which m z k := by unfold dqS dqC; rw [if_neg (by omega), heW]
    have hcl : cs.length ≤ 1000 := by rw [ew, List.length_map] at hwl; exact hwl
    have fnz : (z < 0 ∨ (m : Int) < z) → which < 2 → Err H1 _ T.InvalidNumber_a (.int z) := fun hz h2 => fin _ _ _ T.InvalidNumber_E.te (kd_number T) (by rw [dq]; unfold dqZ; rw [if_pos ⟨h2, by omega⟩]; rfl)
    rcases hw4 with rfl | rfl | rfl | rfl
    · refine r_itD (by decide) ?_
      fail "ww"
      by_cases hz : z < 0 ∨ (m : Int) < z
      · exact .inr ⟨m, z, b, ts, ws, (_, .int z), rfl, by omega, sq hB1, hC1, .inr ⟨by omega, heW, hz, rfl, rfl⟩, fnz hz (by decide)⟩
      · obtain ⟨zz, rfl⟩ := Int.eq_ofNat_of_zero_le (show 0 ≤ z by omega)
        refine .inl ⟨m, b, zz, ts, cs, rfl, hm1, by omega, by omega, sq hB1, hM1, hf, fun H2 s2 => ?_⟩
        fail "ww"
        refine q _ _ (s1.trans s2) ?_
        rw [dq]; unfold dqZ dqW; rw [if_neg (by omega), if_neg (by decide)]; rfl
    · refine r_itDF (by decide) ?_
      fail "ww"
      refine r_itD (by decide) ?_
      fail "ww"
      by_cases hz : z < 0 ∨ (m : Int) < z
      · exact .inr ⟨m, z, k, b, ts, ws, (_, .int z), rfl, by omega, sq hB1, hC1, .inl (.inr ⟨by omega, heW, hz, rfl, rfl⟩), fnz hz (by decide)⟩
      · obtain ⟨zz, rfl⟩ := Int.eq_ofNat_of_zero_le (show 0 ≤ z by omega)
        have hwd : k < 0 ∨ ((Wd (cntN cs m zz) m zz m 0 : Nat) : Int) ≤ k := by
          rcases hk with hk | hk
          · exact .inl hk
          · refine .inr ?_
            have a1 : Wd (cntN cs m zz) m zz m 0 ≤ 2 ^ m := wd_le m 0
            have a2 : 2 ^ m ≤ 2 ^ 6 := Nat.pow_le_pow_right (by decide) (by omega)
            omega
        refine .inr ⟨m, zz, k, b, ts, ws, (_, .int k), rfl, by omega, sq hB1, hC1, .inr ⟨m, zz, cs, rfl, rfl, hm1, by omega, hf, ew, hwd, rfl, rfl⟩, fin _ _ _ T.InvalidNumber_E.te (kd_number T) ?_⟩
        rw [dq]; unfold dqZ dqW; rw [if_neg (by omega), if_pos rfl]; rfl
    · refine r_itDF (by decide) ?_
      fail "ww"
      refine r_itDF (by decide) ?_
      fail "ww"
      refine r_itD (by decide) ?_
      fail "ww"
      refine .inl ⟨m, b, ts, cs, rfl, hm1, by omega, sq hB1, hM1, hf, fun H2 s2 => ?_⟩
      fail "ww"
      refine q _ _ (s1.trans s2) ?_
      rw [dq]; unfold dqZ dqW; rw [if_neg (by omega), if_neg (by decide)]; rfl
    · refine r_itDF (by decide) ?_
      fail "ww"
      refine r_itDF (by decide) ?_
      fail "ww"
      refine r_itDF (by decide) ?_
      fail "ww"
      refine .inl ?_
      fail "ww"
      refine ⟨m, b, ts, cs, rfl, hm1, by omega, by omega, hf, ?_⟩
      have hlen : (resM m cs).length ≤ 46656 := by
        have a1 : (resM m cs).length ≤ (arrM m m).length := List.length_filter_le _ _
        have a2 := arr_len (n := m) m
        have a3 : m ^ m ≤ 6 ^ m := Nat.pow_le_pow_left (by omega) m
        have a4 : 6 ^ m ≤ 6 ^ 6 := Nat.pow_le_pow_right (by decide) (by omega)
        have a5 : 6 ^ 6 = 46656 := by decide
        omega
      have hbR : b ≠ R := ne_of_none hB nR
      have htR : ∀ t ∈ ts, t ≠ R := fun t ht e => by
        obtain ⟨i, hi⟩ := List.getElem?_of_mem ht
        obtain ⟨c, _, g⟩ := hM1.at_ i t hi
        rw [e, hR] at g; cases g
      refine ⟨fun i qq σ' H' => ∃ (rows : List V) (y6 : Option V), σ' = [some (.int ((3 : Nat) : Int)), some (.int (m : Int)), some (.ref b), some (.int z), some (.int k), some (.ref R), y6, none] ∧ Sx R H1 H' ∧ H' R = some (.lst rows) ∧ rows.length = i ∧ i ≤ (resM m cs).length ∧
        (match qq with
          | none => i = 0
          | some (sh, us, j, v) => i = resN m cs j ∧ H' sh = some (.lst (us.map V.ref)) ∧ Cm H' us (trimR (desc m) cs) ∧ RowS H' v (arrM m m)[j]? ∧ sh ≠ R ∧ (∀ t ∈ us, t ≠ R) ∧ v ≠ .ref R), ⟨[], none, rfl, Sx.refl, hR, rfl, Nat.zero_le _, rfl⟩, fun i qq σ' H' pp => ?_⟩
      obtain ⟨rows, y6, rfl, sx, hRr, hrl, hil, hqq⟩ := pp
      refine ⟨hil, ?_, fun _ H2 s2 => ?_, fun hlt x q' H2 hY => ?_⟩
      · rcases qq with _ | ⟨sh, us, j, v⟩
        · exact ⟨hqq, sq (sx _ _ hbR hB1), ⟨hM1.len, fun i t e => let ⟨c, e1, e2⟩ := hM1.at_ i t e; ⟨c, e1, sx _ _ (htR t (List.mem_of_getElem? e)) e2⟩⟩⟩
        · exact ⟨hqq.1, hqq.2.1, hqq.2.2.1, hqq.2.2.2.1⟩
      · fail "ww"
        refine q _ _ (fun c o hc => s2 _ _ (sx _ _ (ne_of_none hc nR) (s1 _ _ hc))) ?_
        rw [dq]; unfold dqZ dqW; rw [if_neg (by omega), if_neg (by decide)]; rfl
      · obtain ⟨sh, us, j, v, a, r, rfl, rfl, s2, _, ha, hsh, hU, hv, hN, hO, hF⟩ := hY
        have hR2 := s2 _ _ hRr
        fail "ww"
        refine r_append hR2 (size_lt (by omega)) ?_
        fail "ww"
        have hor : sh ≠ R ∧ (∀ t ∈ us, t ≠ R) := by
          rcases qq with _ | ⟨sh0, us0, j0, v0⟩
          · obtain ⟨g1, g2, _⟩ := hO
            exact ⟨(fun e => by rw [e, hRr] at g1; cases g1), (fun t ht e => by have := g2 t ht; rw [e, hRr] at this; cases this)⟩
          · obtain ⟨g1, g2, _⟩ := hO
            subst g1; subst g2
            exact ⟨hqq.2.2.2.2.1, hqq.2.2.2.2.2.1⟩
        have hvR : v ≠ .ref R := fun e => by have := hF R e; rw [hRr] at this; cases this
        refine ⟨_, _, rfl, (sx.same s2).trans Sx.put, upd_same, by rw [List.length_append, hrl]; rfl, hlt, hN.symm, upd_to hor.1 hsh, ⟨hU.len, fun i t e => let ⟨c, e1, e2⟩ := hU.at_ i t e; ⟨c, e1, upd_to (hor.2 t (List.mem_of_getElem? e)) e2⟩⟩, ?_, hor.1, hor.2, hvR⟩
        cases e : (arrM m m)[j]? with
        | none => rw [e] at hv; exact hv
        | some rr =>
          rw [e] at hv
          obtain ⟨p, rfl, hp⟩ := hv
          exact ⟨p, rfl, upd_to (fun z => hvR (by rw [z])) hp⟩
theorem Cw.put {H : Hp} {ts : List Addr} {ws : List Pr} {p : Addr} {xs : List V} {o : HO} (h : Cw H ts ws) (hp : H p = some (.lst xs)) : Cw (upd H p o) ts ws :=
  ⟨h.len, fun i t e => let ⟨c, e1, e2⟩ := h.at_ i t e; ⟨c, e1, upd_to (ne_of e2 hp (by intro z; cases z)) e2⟩⟩
theorem Cw.sy {H H' : Hp} {ts : List Addr} {ws : List Pr} {r g : Addr} {m : Nat} (h : Cw H ts ws) (hR : Bag H r g m) (s : Sy r g H H') : Cw H' ts ws := by
  obtain ⟨gs, l, t, b, hr, hg, _⟩ := hR
  exact ⟨h.len, fun i t e => let ⟨c, e1, e2⟩ := h.at_ i t e; ⟨c, e1, s _ _ (ne_of e2 hr (by intro z; cases z)) (ne_of e2 hg (by intro z; cases z)) e2⟩⟩
theorem Cw.set {H : Hp} {ts : List Addr} {ws : List Pr} (h : Cw H ts ws) {t : Addr} {c : Pr} (ht : H t = some (.tup [.int c.1, .int c.2])) (j : Nat) : Cw H (ts.set j t) (ws.set j c) :=
  ⟨by rw [List.length_set, List.length_set, h.len], fun i u e => by
    by_cases hij : j = i
    · subst hij
      have hl : j < ts.length := by
        have := (List.getElem?_eq_some_iff.mp e).1
        rwa [List.length_set] at this
      rw [List.getElem?_set_self hl] at e
      cases e
      exact ⟨c, List.getElem?_set_self (by rw [← h.len]; exact hl), ht⟩
    · rw [List.getElem?_set_ne hij] at e
      obtain ⟨d, e1, e2⟩ := h.at_ i u e
      exact ⟨d, by rw [List.getElem?_set_ne hij]; exact e1, e2⟩⟩
theorem Bag.net {H : Hp} {r g t : Addr} {xs : List V} {m : Nat} (h : Bag H r g m) (ht : H t = some (.tup xs)) : t ≠ r ∧ t ≠ g := by
  obtain ⟨gs, l, t', b, h1, h2, _⟩ := h
  exact ⟨ne_of ht h1 (by intro z; cases z), ne_of ht h2 (by intro z; cases z)⟩
def sp_law (K : PySem.W.Frag) : Sp := fun vs H Q _ => ∃ (a : Addr) (ns : List Int), vs = [.ref a] ∧ SqL K H a (ns.map V.int) ∧ ns.length ≤ 63 ∧ ∀ H', Q (.bl true) H'
theorem ok_law (T : Txt K mg) : FnG P w K mg base CX0 16 T.law_a T.law_d ["script"] (sp_law K) := by
  refine okG T.law_F sc_law (fun vs H Q E h => ?_) (fun cdv A ou t H vs Q E hG hr h => ?_)
  · obtain ⟨_, _, rfl, _⟩ := h; rfl
  have nd := sc_law.nd
  obtain ⟨a, ns, rfl, hS, hlen, q⟩ := h
  refine ⟨_, (pss_cons (sset 1 nd (pe_callG (ok_law_bag T) hG (hr.mono (by decide)) (by rfl) T.law_bag_g T.law_bag_F.kp T.law_bag_b .nil pass0 (pa_cons (pv 0) pa_nil)))
      (pss_cons (ps_for PassesOwn.never rfl (pi_range1 (by rfl) T.m_range (pa_cons (pe_op op_add pe_int (pe_callB (call_min2 rfl) (by rfl) T.m_min (by decide +kernel) (pa_cons pe_int (pa_cons (pe_callB (lenK K) (by rfl) T.m_len PySem.boot_len (pa_cons (pv 0) pa_nil)) pa_nil)))) pa_nil)) (gset 2 nd)
        (pss_cons (sset 3 nd (pe_op op_sub (pe_callG (ok_law_draw T) hG (hr.mono (by decide)) (by rfl) T.law_draw_g T.law_draw_F.kp T.law_draw_b .nil pass0 (pa_cons (pv 1) (pa_cons pe_int pa_nil))) pe_int))
      (pss_cons (sset 4 nd (pe_callG (ok_law_commands T) hG (hr.mono (by decide)) (by rfl) T.law_commands_g T.law_commands_F.kp T.law_commands_b .nil pass0 (pa_cons (pv 1) (pa_cons (pe_callB (call_max2 rfl) (by rfl) T.m_max (by decide +kernel) (pa_cons pe_int (pa_cons (pv 3) pa_nil))) (pa_cons pe_int pa_nil)))))
      (C8.pss_cut (ps_if (pt_cmpR op_eq (pe_callG (ok_law_draw T) hG (hr.mono (by decide)) (by rfl) T.law_draw_g T.law_draw_F.kp T.law_draw_b .nil pass0 (pa_cons (pv 1) (pa_cons pe_int pa_nil))) pe_int (nomark _))
        (pss_cons (sset 4 nd (pe_op op_rep (pe_lst (pa_cons (pe_tup (pa_cons pe_int (pa_cons pe_int pa_nil))) pa_nil)) (pe_op op_add pe_int (pe_callG (ok_law_draw T) hG (hr.mono (by decide)) (by rfl) T.law_draw_g T.law_draw_F.kp T.law_draw_b .nil pass0 (pa_cons (pv 1) (pa_cons pe_int pa_nil))))))
      (pss_one (ps_asg (pe_tup (pa_cons pe_int (pa_cons pe_int pa_nil))) (pg_sub (pv 4) (pe_op op_sub (pe_un un_neg pe_int) (pe_callG (ok_law_draw T) hG (hr.mono (by decide)) (by rfl) T.law_draw_g T.law_draw_F.kp T.law_draw_b .nil pass0 (pa_cons (pv 1) (pa_cons pe_int pa_nil)))) set_list))))
        pss_nil)
      (pss_cons (ps_for PassesOwn.never rfl (pi_range1 (by rfl) T.m_range (pa_cons (pe_callB (lenK K) (by rfl) T.m_len PySem.boot_len (pa_cons (pe_slice (sl_listK K) (pv 4) po_none (po_some pe_int)) pa_nil)) pa_nil)) (gset 5 nd)
        (pss_one (ps_if (pt_cmpR op_eq (pe_callG (ok_law_draw T) hG (hr.mono (by decide)) (by rfl) T.law_draw_g T.law_draw_F.kp T.law_draw_b .nil pass0 (pa_cons (pv 1) (pa_cons pe_int pa_nil))) pe_int (nomark _))
        (pss_one (ps_asg (pe_ix (ix_tupK K) (pe_tup (pa_cons (pe_tup (pa_cons pe_int (pa_cons pe_int pa_nil))) (pa_cons (pe_tup (pa_cons pe_int (pa_cons pe_int pa_nil))) (pa_cons (pe_tup (pa_cons pe_int (pa_cons (pe_op op_add (pv 3) pe_int) pa_nil))) (pa_cons (pe_tup (pa_cons (pe_un un_neg pe_int) (pa_cons (pe_un un_neg pe_int) pa_nil))) (pa_cons (pe_tup (pa_cons (pe_op op_powW pe_int pe_int) (pa_cons (pe_op op_powW pe_int pe_int) pa_nil))) pa_nil)))))) (pe_callG (ok_law_draw T) hG (hr.mono (by decide)) (by rfl) T.law_draw_g T.law_draw_F.kp T.law_draw_b .nil pass0 (pa_cons (pv 1) (pa_cons pe_int pa_nil))) (fun _ _ => rfl)) (pg_sub (pv 4) (pv 5) set_list)))
        pss_nil)))
      (pss_cons (ps_setLc (i := 6) (hy := rfl) (hyl := rfl) (hsw := sw_true rfl rfl rfl (by decide +kernel)) (own := [("spot", 5)]) (hc := rfl) (hN := nd) (hi := (pi_range1 (by rfl) T.m_range (pa_cons (pe_callB (lenK K) (by rfl) T.m_len PySem.boot_len (pa_cons (pv 4) pa_nil)) pa_nil))) (ok := blkOk_by (by rfl)) (hg := fun _ _ _ _ _ => (gset 5 nd)) (ht := (fun _ _ _ _ _ => pts_one (pt_not (pt_chain3 op_le op_le op_le pe_int (pe_ix (ix_tupK K) (pe_ix (ix_listK K) (pv 4) (pv 5) (fun _ _ => rfl)) pe_int (fun _ _ => rfl)) (pe_ix (ix_tupK K) (pe_ix (ix_listK K) (pv 4) (pv 5) (fun _ _ => rfl)) pe_int (fun _ _ => rfl)) (pv 3))))) (he := fun _ _ _ _ _ => (pv 5)))
      (pss_cons (sset 7 nd (pe_ix (ix_tupK K) (pe_tup (pa_cons (pe_callG (ok_law_draw T) hG (hr.mono (by decide)) (by rfl) T.law_draw_g T.law_draw_F.kp T.law_draw_b .nil pass0 (pa_cons (pv 1) (pa_cons pe_int pa_nil))) (pa_cons (pe_un un_neg pe_int) (pa_cons (pv 3) (pa_cons (pe_op op_add (pv 3) pe_int) (pa_cons (pe_op op_powW pe_int pe_int) pa_nil)))))) (pe_callG (ok_law_draw T) hG (hr.mono (by decide)) (by rfl) T.law_draw_g T.law_draw_F.kp T.law_draw_b .nil pass0 (pa_cons (pv 1) (pa_cons pe_int pa_nil))) (fun _ _ => rfl)))
      (pss_cons (sset 8 nd (pe_ix (ix_tupK K) (pe_tup (pa_cons (pe_un un_neg pe_int) (pa_cons (pe_op op_powW pe_int pe_int) (pa_cons (pe_op op_sub pe_int (pe_op op_powW pe_int pe_int)) pa_nil)))) (pe_callG (ok_law_draw T) hG (hr.mono (by decide)) (by rfl) T.law_draw_g T.law_draw_F.kp T.law_draw_b .nil pass0 (pa_cons (pv 1) (pa_cons pe_int pa_nil))) (fun _ _ => rfl)))
      (pss_one (ps_for PassesOwn.never rfl (pi_range1 (by rfl) T.m_range (pa_cons pe_int pa_nil)) (gset 9 nd)
        (pss_cons (sset 10 nd pe_non)
      (C8.pss_cut (ps_if (pt_cmpR op_eq (pv 9) pe_int (nomark _))
        (pss_one (sset 10 nd (pe_tup (pa_cons pe_str (pa_cons (pv 8) (pa_cons pe_int pa_nil))))))
        pss_nil)
      (C8.pss_cut (ps_if (PW.pt (pw_and (pt_cmpR op_lt (pv 9) pe_int (nomark _)) (pw_and1 (pt_not (pt_chain op_le op_le pe_int (pv 7) (pv 3))))))
        (pss_one (sset 10 nd (pe_tup (pa_cons pe_str (pa_cons (pv 7) (pa_cons pe_int pa_nil))))))
        pss_nil)
      (C8.pss_cut (ps_if (pt_cmpR op_gt (pe_callB (lenK K) (by rfl) T.m_len PySem.boot_len (pa_cons (pv 6) pa_nil)) pe_int (nomark _))
        (pss_one (sset 10 nd (pe_tup (pa_cons pe_str (pa_cons (pe_ix (ix_listK K) (pv 6) pe_int (fun _ _ => rfl)) (pa_cons pe_int pa_nil))))))
        pss_nil)
      (C8.pss_cut (ps_if (pt_cmpR op_lt (pv 3) pe_int (nomark _))
        (pss_one (sset 10 nd (pe_tup (pa_cons pe_str (pa_cons (pv 3) (pa_cons pe_int pa_nil))))))
        pss_nil)
      (pss_one (ps_if (pt_cmpR (neDK K hr.units) (pe_callG (ok_law_caught T) hG (hr.mono (by decide)) (by rfl) T.law_caught_g T.law_caught_F.kp T.law_caught_b .nil pass0 (pa_cons (pv 9) (pa_cons (pv 3) (pa_cons (pv 4) (pa_cons (pv 7) (pa_cons (pv 8) pa_nil)))))) (pv 10) (nomark _))
        (pss_one (ps_ret pe_bl))
        pss_nil)))))))))))))))))
      (pss_one (ps_ret pe_bl)))), ?_⟩
  fail "ww"
  refine ⟨a, ns, rfl, hS, hlen, fun H1 r g s1 hr0 hg0 hR => ?_⟩
  fail "ww"
  rw [List.length_map]
  obtain ⟨n, hn, hn2⟩ : ∃ n : Nat, (10 + (if ((ns.length : Nat) : Int) < 20 then ((ns.length : Nat) : Int) else 20)) = (n : Int) ∧ n ≤ 30 := by
    split
    · exact ⟨10 + ns.length, by omega, by omega⟩
    · exact ⟨30, by omega, by omega⟩
  rw [hn]
  refine ⟨by omega, by omega, ?_⟩
  refine forF walk_range (fun i σ' H' => ∃ y2 y3 y4 y5 y6 y7 y8 y9 y10, σ' = [some (.ref a), some (.ref r), y2, y3, y4, y5, y6, y7, y8, y9, y10] ∧ Bag H' r g (1000 * i))
    ⟨none, none, none, none, none, none, none, none, none, rfl, hR⟩ (fun _ _ _ _ _ => trivial) (fun i σ' H' hi p => ?_) (fun σ' H' p => ?_)
  · clear hR
    obtain ⟨y2, y3, y4, y5, y6, y7, y8, y9, y10, rfl, hR0⟩ := p
    have hi24 : i < 30 := by omega
    fail "ww"
    refine ⟨r, g, 8, _, rfl, hR0, by omega, by decide, by decide, fun H2 d0 hd00 hd01 s2 hR2 => ?_⟩
    fail "ww"
    obtain ⟨many, hmd, hm1, hm2⟩ : ∃ m : Int, d0 - 1 = m ∧ -1 ≤ m ∧ m ≤ 6 := ⟨_, rfl, by omega, by omega⟩
    rw [hmd]
    clear s2 hR0 hmd hd00 hd01
    fail "ww"
    obtain ⟨wide, hwd, hw1, hw2⟩ : ∃ w : Nat, (if many > 1 then many else 1) = (w : Int) ∧ 1 ≤ w ∧ w ≤ 6 := by
      split
      · exact ⟨many.toNat, by omega, by omega, by omega⟩
      · exact ⟨1, rfl, by decide, by decide⟩
    rw [hwd]
    fail "ww"
    refine ⟨r, g, wide, 4, _, rfl, hR2, hw1, by omega, by omega, by omega, fun H3 pm0 us0 ms s3 nm0 hR3 hM hMc hMf hml => ?_⟩
    have hmr0 := hR2.ner nm0
    clear s3 nm0 hR2 hwd
    fail "ww"
    refine r_cut (fun σ' H' => ∃ (pm : Addr) (ts : List Addr) (ws : List Pr), σ' = [some (.ref a), some (.ref r), some (.int (0 + (i : Int))), some (.int many), some (.ref pm), y5, y6, y7, y8, y9, y10] ∧ Bag H' r g (1000 * i + 30) ∧ H' pm = some (.lst (ts.map V.ref)) ∧ Cw H' ts ws ∧ ws.length ≤ 200 ∧ pm ≠ r ∧ pm ≠ g) ?_ (fun σ' H4 p => ?_)
    · fail "ww"
      refine ⟨r, g, 4, _, rfl, hR3, by omega, by decide, by decide, fun H5 e0 he0 he1 s5 hR5 => ?_⟩
      have hP5 := s5 _ _ hmr0.1 hmr0.2 hM
      have hC5 := hMc.toCw.sy hR3 s5
      clear s5 hR3 hM hMc
      fail "ww"
      refine r_dec (fun hz => ?_) (fun hz => ?_)
      · fail "ww"
        refine new_ fun t0 H6 n6 s6 g0 => ?_
        fail "ww"
        refine new_ fun l1 H7 n7 s7 g1 => ?_
        fail "ww"
        have hR7 := hR5.same (s6.trans s7)
        have ht0 := s7 _ _ g0
        refine ⟨r, g, 100, _, rfl, hR7, by omega, by decide, by decide, fun H8 e1 he10 he11 s8 hR8 => ?_⟩
        obtain ⟨cnt, hcnt, hc1, hc2⟩ : ∃ c : Nat, 100 + e1 = (c : Int) ∧ 100 ≤ c ∧ c ≤ 199 := ⟨(100 + e1).toNat, by omega, by omega, by omega⟩
        have hl8 := s8 _ _ (hR5.same s6 |>.ner n7).1 (hR5.same s6 |>.ner n7).2 g1
        have ht8 := s8 _ _ (hR5.ner n6).1 (hR5.ner n6).2 ht0
        fail "ww"
        rw [hcnt]
        refine n_rep hl8 (by omega) (by rw [List.length_singleton]; omega) (new_ fun l2 H9 n9 s9 g9 => ?_)
        have el2 : (List.replicate cnt [V.ref t0]).flatten = (List.replicate cnt t0).map V.ref := by
          rw [List.map_replicate]
          clear hcnt hc1 hc2 g9
          induction cnt with
          | zero => rfl
          | succ c ih => rw [List.replicate_succ, List.flatten_cons, ih, List.replicate_succ]; rfl
        rw [el2] at g9
        fail "ww"
        refine new_ fun z0 H10 n10 s10 g10 => ?_
        have hl2r := (hR8.same s9 |>.ner n10)
        have hl2' := (hR8.ner n9)
        have hR10 := hR8.same (s9.trans s10)
        have hl10 := s10 _ _ g9
        have ht10 := s10 _ _ (s9 _ _ ht8)
        clear g1 g9 hl8 ht8 hR8 s9 s10 s8 ht0 g0 s6 s7 hR7 hR5 hP5 hC5
        fail "ww"
        refine ⟨r, g, 20, _, rfl, hR10, by omega, by decide, by decide, fun H11 e2 he20 he21 s11 hR11 => ?_⟩
        have hl11 := s11 _ _ hl2'.1 hl2'.2 hl10
        have ht11 := s11 _ _ (hR10.net ht10).1 (hR10.net ht10).2 ht10
        have hz11 := s11 _ _ (hR10.net g10).1 (hR10.net g10).2 g10
        fail "ww"
        refine r_setL hl11 (n := cnt - 1 - e2.toNat) ?_ ?_
        · unfold ixN
          rw [if_neg (by omega), if_pos (by rw [List.length_map, List.length_replicate]; omega), List.length_map, List.length_replicate]
          congr 1
          omega
        rw [← List.map_set]
        have hCr : Cw H11 (List.replicate cnt t0) (List.replicate cnt (1, 1)) := ⟨by simp, fun i t e => by
          rw [List.getElem?_replicate] at e
          split at e
          · rename_i hi2
            cases e
            exact ⟨(1, 1), by rw [List.getElem?_replicate, if_pos hi2], ht11⟩
          · cases e⟩
        exact ⟨l2, _, _, rfl, (hR11.other hl2').le (by omega), upd_same, (hCr.set (c := (0, 0)) hz11 _).put hl11, by rw [List.length_set, List.length_replicate]; omega, hl2'⟩
      · fail "ww"
        exact ⟨pm0, us0, ms.map toW, rfl, hR5.le (by omega), hP5, hC5, by rw [List.length_map]; omega, hmr0⟩
    · clear hR3 hM hMc hMf hmr0
      obtain ⟨pm, ts0, ws0, rfl, hR3, hM, hC0, hwl0, hmr⟩ := p
      fail "ww"
      refine n_slL (sq hM) (new_ fun c5 H5 n5 s5 g5 => ?_)
      have hR5 := hR3.same s5
      have hM5 := s5 _ _ hM
      have hC5 := hC0.same s5
      have hcl := cutV_length (ts0.map V.ref) none (some 4)
      rw [List.length_map, hC0.len] at hcl
      clear hR3 hM hC0 s5
      fail "ww"
      obtain ⟨nn, hnn⟩ : ∃ nn : Nat, (cutV (ts0.map V.ref) none (some 4)).length = nn := ⟨_, rfl⟩
      rw [hnn] at hcl ⊢
      clear hnn g5 n5
      refine ⟨by omega, by omega, ?_⟩
      refine forF walk_range (fun j σ' H' => ∃ y5 ts ws, σ' = [some (.ref a), some (.ref r), some (.int (0 + (i : Int))), some (.int many), some (.ref pm), y5, y6, y7, y8, y9, y10] ∧ Bag H' r g (1000 * i + 30 + 2 * j) ∧ H' pm = some (.lst (ts.map V.ref)) ∧ Cw H' ts ws ∧ ws.length = ws0.length)
        ⟨y5, ts0, ws0, rfl, hR5, hM5, hC5, rfl⟩ (fun _ _ _ _ _ => trivial) (fun j σ' H4 hj p => ?_) (fun σ' H4 p => ?_)
      · clear hR5 hM5 hC5 y5
        obtain ⟨y5, ts, ws, rfl, hR, hP, hC, hwl⟩ := p
        rw [Int.toNat_natCast] at hj
        fail "ww"
        refine ⟨r, g, 9, _, rfl, hR, by omega, by decide, by decide, fun H5 e0 he0 he1 s5 hR5 => ?_⟩
        have hP5 := s5 _ _ hmr.1 hmr.2 hP
        have hC5 := hC.sy hR s5
        clear s5 hR hP hC
        fail "ww"
        refine r_dec (fun hz => ?_) (fun hz => ?_)
        · fail "ww"
          refine new_ fun t0 H6 n6 s6 g0 => ?_
          fail "ww"
          refine new_ fun t1 H7 n7 s7 g1 => ?_
          fail "ww"
          refine new_ fun t2 H8 n8 s8 g2 => ?_
          fail "ww"
          refine new_ fun t3 H9 n9 s9 g3 => ?_
          fail "ww"
          refine new_ fun t4 Ha na sa g4 => ?_
          fail "ww"
          refine new_ fun tt H10 n10 s10 gt => ?_
          fail "ww"
          have s510 := s6.trans (s7.trans (s8.trans (s9.trans (sa.trans s10))))
          have h0 := s10 _ _ (sa _ _ (s9 _ _ (s8 _ _ (s7 _ _ g0))))
          have h1 := s10 _ _ (sa _ _ (s9 _ _ (s8 _ _ g1)))
          have h2 := s10 _ _ (sa _ _ (s9 _ _ g2))
          have h3 := s10 _ _ (sa _ _ g3)
          have h4 := s10 _ _ g4
          have hP10 := s510 _ _ hP5
          have hC10 := hC5.same s510
          have hR10 := hR5.same s510
          have htr := hR10.net gt
          clear s6 s7 s8 s9 sa s10 s510 g0 g1 g2 g3 g4 n6 n7 n8 n9 na n10 hP5 hC5 hR5
          refine ⟨r, g, 5, _, rfl, hR10, by omega, by decide, by decide, fun H11 e1 he10 he11 s11 hR11 => ?_⟩
          obtain ⟨t, c, hat, ht⟩ : ∃ (t : Addr) (c : Pr), atI [V.ref t0, V.ref t1, V.ref t2, V.ref t3, V.ref t4] e1 = some (.ref t) ∧ H10 t = some (.tup [.int c.1, .int c.2]) := by
            have : e1 = 0 ∨ e1 = 1 ∨ e1 = 2 ∨ e1 = 3 ∨ e1 = 4 := by omega
            rcases this with e | e | e | e | e <;> subst e
            · exact ⟨t0, (0, 1), rfl, h0⟩
            · exact ⟨t1, (2, 1), rfl, h1⟩
            · exact ⟨t2, (1, many + 1), rfl, h2⟩
            · exact ⟨t3, (-1, -1), rfl, h3⟩
            · exact ⟨t4, (_, _), rfl, h4⟩
          refine r_ixT (sqT (s11 _ _ htr.1 htr.2 gt)) hat ?_
          have hC11 := hC10.sy hR10 s11
          have hP11 := s11 _ _ hmr.1 hmr.2 hP10
          have ht11 : H11 t = some (.tup [.int c.1, .int c.2]) := by
            have q : t ≠ r ∧ t ≠ g := by
              obtain ⟨gs, l, t', b, hr, hg, _⟩ := hR10
              exact ⟨ne_of ht hr (by intro z; cases z), ne_of ht hg (by intro z; cases z)⟩
            exact s11 _ _ q.1 q.2 ht
          clear h0 h1 h2 h3 h4 hP10 hC10 hR10 s11 gt ht hat
          fail "ww"
          refine r_setL hP11 (n := j) (ix_of (by omega) (by rw [List.length_map, hC11.len]; omega)) ?_
          rw [← List.map_set]
          exact ⟨_, ts.set j t, ws.set j c, rfl, (hR11.other hmr).le (by omega), upd_same, (hC11.set ht11 j).put hP11, by rw [List.length_set]; exact hwl⟩
        · fail "ww"
          exact ⟨_, ts, ws, rfl, hR5.le (by omega), hP5, hC5, hwl⟩
      · clear hR5 hM5 hC5 y5
        obtain ⟨y5, ts, ws, rfl, hR, hP, hC, hwl⟩ := p
        rw [Int.toNat_natCast] at hR
        fail "ww"
        rw [List.length_map, hC.len]
        refine ⟨by omega, by omega, fun D nD => ?_⟩
        refine lc_it walk_range (fun j Hh => Same H4 Hh ∧ Hh D = some (.lst (((List.range j).filter (wrW many ws)).map fun (j : Nat) => V.int (j : Int)))) ⟨same_new nD, upd_same⟩ (fun _ _ _ _ => trivial) (fun j x Hh0 Hh hj pp z => ?_) (fun H5 pp => ?_)
        · obtain ⟨rfl, rfl⟩ := z
          rw [Int.toNat_natCast] at hj
          obtain ⟨t0, et, ht⟩ := hC.idx hj
          have hw := wrW_at (n := many) (ws := ws) (i := j) (List.getElem?_eq_getElem hj)
          rw [List.range_succ, List.filter_append, List.map_append]
          have ht1 := pp.1 _ _ ht
          have hP1 := pp.1 _ _ hP
          generalize ws[j] = c at *
          have len : ((List.range j).filter (wrW many ws)).length ≤ 100000 := Nat.le_trans (List.length_filter_le _ _) (by rw [List.length_range]; omega)
          have skip : FitW many c → Same H4 Hh ∧ Hh D = some (.lst ((((List.range j).filter (wrW many ws)).map fun (j : Nat) => V.int (j : Int)) ++ ((([j] : List Nat).filter (wrW many ws)).map fun (j : Nat) => V.int (j : Int)))) := fun g => by
            rw [List.filter_cons_of_neg (by rw [hw, decide_eq_true g]; decide), List.filter_nil, List.map_nil, List.append_nil]
            exact pp
          have take_ : ¬ FitW many c → ∃ l, Hh D = some (.lst l) ∧ l.length < sizeLine ∧ Same H4 (upd Hh D (.lst (l ++ [.int (j : Nat)]))) ∧
              (upd Hh D (.lst (l ++ [.int (j : Nat)]))) D = some (.lst ((((List.range j).filter (wrW many ws)).map fun (j : Nat) => V.int (j : Int)) ++ ((([j] : List Nat).filter (wrW many ws)).map fun (j : Nat) => V.int (j : Int)))) := fun g => by
            rw [List.filter_cons_of_pos (by rw [hw, decide_eq_false g]; decide)]
            exact lc_add pp (Same.refl _) nD rfl (by rw [List.length_map]; exact size_lt (by omega))
          unfold FitW at skip take_
          fail "ww"
          refine ⟨rfl, ?_⟩
          fail "ww"
          have hP2 : SqL K Hh pm (ts.map V.ref) := sq hP1
          have ix : atI (ts.map V.ref) (0 + (j : Int)) = some (.ref t0) := at_of (j := j) (by omega) (by rw [List.getElem?_map, et]; rfl)
          refine r_ixL hP2 ix ?_
          fail "ww"
          refine r_ixT (sqT ht1) (show atI _ (0 : Int) = some (V.int c.1) from rfl) ?_
          fail "ww"
          refine r_dec (fun g => ?_) (fun g => ?_)
          · fail "ww"
            refine r_ixL hP2 ix ?_
            fail "ww"
            refine r_ixT (sqT ht1) (show atI _ (1 : Int) = some (V.int c.2) from rfl) ?_
            fail "ww"
            refine r_dec (fun g2 => ?_) (fun g2 => ?_)
            · fail "ww"
              by_cases g3 : c.2 ≤ many
              · rw [decide_eq_true g3]
                fail "ww"
                exact skip ⟨g, g2, g3⟩
              · rw [decide_eq_false g3]
                fail "ww"
                simp only [Int.zero_add]
                exact take_ (fun z => g3 z.2.2)
            · fail "ww"
              simp only [Int.zero_add]
              exact take_ (fun z => g2 z.2.1)
          · fail "ww"
            simp only [Int.zero_add]
            exact take_ (fun z => g z.1)
        · obtain ⟨s5, hD⟩ := pp
          rw [Int.toNat_natCast] at hD
          have hR5 := hR.same s5
          have hP5 := s5 _ _ hP
          have hC5 := hC.same s5
          have hDr := hR.ner nD
          clear s5 hR hP hC nD
          fail "ww"
          refine ⟨r, g, 6, _, rfl, hR5, by omega, by decide, by decide, fun H6 f0 _ _ s6 hR6 => ?_⟩
          have hP6 := s6 _ _ hmr.1 hmr.2 hP5
          have hC6 := hC5.sy hR5 s6
          have hD6 := s6 _ _ hDr.1 hDr.2 hD
          clear s6 hR5 hP5 hC5 hD
          fail "ww"
          refine new_ fun tz H7 n7 s7 g7 => ?_
          have hR7 := hR6.same s7
          fail "ww"
          refine ⟨r, g, 5, _, rfl, hR7, by omega, by decide, by decide, fun H8 f1 f10 f11 s8 hR8 => ?_⟩
          obtain ⟨z, hat⟩ : ∃ z : Int, atI [V.int f0, V.int (-1), V.int many, V.int (many + 1), V.int (10 ^ Int.toNat 29)] f1 = some (.int z) := by
            have : f1 = 0 ∨ f1 = 1 ∨ f1 = 2 ∨ f1 = 3 ∨ f1 = 4 := by omega
            rcases this with e | e | e | e | e <;> subst e <;> exact ⟨_, rfl⟩
          refine r_ixT (sqT (s8 _ _ (hR7.net g7).1 (hR7.net g7).2 g7)) hat ?_
          have hP8 := s8 _ _ hmr.1 hmr.2 (s7 _ _ hP6)
          have hC8 := (hC6.same s7).sy hR7 s8
          have hD8 := s8 _ _ hDr.1 hDr.2 (s7 _ _ hD6)
          clear hR7 s7 s8 g7 n7 hR6 hP6 hC6 hD6 hat
          fail "ww"
          refine new_ fun tk H9 n9 s9 g9 => ?_
          have hR9 := hR8.same s9
          fail "ww"
          refine ⟨r, g, 3, _, rfl, hR9, by omega, by decide, by decide, fun H10 f2 f20 f21 s10 hR10 => ?_⟩
          obtain ⟨kk, hat, hkk⟩ : ∃ kk : Int, atI [V.int (-1), V.int (10 ^ Int.toNat 29), V.int (0 - 10 ^ Int.toNat 29)] f2 = some (.int kk) ∧ (kk < 0 ∨ 100 ≤ kk) := by
            have : f2 = 0 ∨ f2 = 1 ∨ f2 = 2 := by omega
            rcases this with e | e | e <;> subst e
            · exact ⟨_, rfl, .inl (by decide)⟩
            · exact ⟨_, rfl, .inr (by decide)⟩
            · exact ⟨_, rfl, .inl (by decide)⟩
          refine r_ixT (sqT (s10 _ _ (hR9.net g9).1 (hR9.net g9).2 g9)) hat ?_
          have hP10 := s10 _ _ hmr.1 hmr.2 (s9 _ _ hP8)
          have hC10 := (hC8.same s9).sy hR9 s10
          have hD10 := s10 _ _ hDr.1 hDr.2 (s9 _ _ hD8)
          clear hR9 s9 s10 g9 n9 hR8 hP8 hC8 hD8 hat
          fail "ww"
          refine ⟨by omega, by omega, ?_⟩
          refine forF walk_range (fun w σ' H' => ∃ y9 y10, σ' = [some (.ref a), some (.ref r), some (.int (0 + (i : Int))), some (.int many), some (.ref pm), y5, some (.ref D), some (.int z), some (.int kk), y9, y10] ∧ Same H10 H')
            ⟨y9, y10, rfl, Same.refl _⟩ (fun _ _ _ _ _ => trivial) (fun w σ' H11 hw p => ?_) (fun σ' H11 p => ?_)
          · obtain ⟨y9, y10, rfl, s11⟩ := p
            have hP11 := s11 _ _ hP10
            have hC11 := hC10.same s11
            have hD11 := s11 _ _ hD10
            clear hP10 hC10 hD10
            fail "ww"
            refine r_cut (fun σ' H' => ∃ v10, σ' = [some (.ref a), some (.ref r), some (.int (0 + (i : Int))), some (.int many), some (.ref pm), y5, some (.ref D), some (.int z), some (.int kk), some (.int (0 + (w : Int))), some v10] ∧ Same H11 H' ∧ TrS H' v10 (dqW w kk)) ?_ (fun σ' H12 p => ?_)
            · fail "ww"
              refine r_dec (fun g1 => ?_) (fun g1 => ?_)
              · fail "ww"
                refine new_ fun q G m e k => ?_
                have : dqW w kk = some (("number" : Str), kk) := by unfold dqW; rw [if_pos (by omega)]
                rw [this]
                exact ⟨_, rfl, e, q, rfl, k⟩
              · fail "ww"
                have : dqW w kk = none := by unfold dqW; rw [if_neg (by omega)]
                rw [this]
                exact ⟨Same.refl _, rfl⟩
            obtain ⟨v10, rfl, s12, hv12⟩ := p
            refine r_cut (fun σ' H' => ∃ v10, σ' = [some (.ref a), some (.ref r), some (.int (0 + (i : Int))), some (.int many), some (.ref pm), y5, some (.ref D), some (.int z), some (.int kk), some (.int (0 + (w : Int))), some v10] ∧ Same H11 H' ∧ TrS H' v10 (dqZ w many z kk)) ?_ (fun σ' H13 p => ?_)
            · fail "ww"
              have yes : w < 2 → ¬ (0 ≤ z ∧ z ≤ many) → dqZ w many z kk = some (("number" : Str), z) := fun h1 h2 => by unfold dqZ; rw [if_pos ⟨h1, h2⟩]
              have no : ¬ (w < 2 ∧ ¬ (0 ≤ z ∧ z ≤ many)) → dqZ w many z kk = dqW w kk := fun h1 => by unfold dqZ; rw [if_neg h1]
              refine r_dec (fun g1 => ?_) (fun g1 => ?_)
              · fail "ww"
                have out : ¬ (0 ≤ z ∧ z ≤ many) → ∀ (q : Addr) (G : Hp), Same H12 G → G q = some (.tup [.str "number", .int z, .int 0]) → Same H11 G ∧ TrS G (.ref q) (dqZ w many z kk) := fun h2 q G e k => by
                  rw [yes (by omega) h2]
                  exact ⟨s12.trans e, q, rfl, k⟩
                refine r_dec (fun g2 => ?_) (fun g2 => ?_)
                · fail "ww"
                  by_cases g3 : z ≤ many
                  · rw [decide_eq_true g3]
                    fail "ww"
                    rw [no (by omega)]
                    exact ⟨s12, hv12⟩
                  · rw [decide_eq_false g3]
                    fail "ww"
                    refine new_ fun q G m e k => ?_
                    exact ⟨_, rfl, out (by omega) q G e k⟩
                · fail "ww"
                  refine new_ fun q G m e k => ?_
                  exact ⟨_, rfl, out (by omega) q G e k⟩
              · fail "ww"
                rw [no (by omega)]
                exact ⟨s12, hv12⟩
            clear hv12 s12 v10
            obtain ⟨v10, rfl, s12, hv12⟩ := p
            refine r_cut (fun σ' H' => ∃ v10, σ' = [some (.ref a), some (.ref r), some (.int (0 + (i : Int))), some (.int many), some (.ref pm), y5, some (.ref D), some (.int z), some (.int kk), some (.int (0 + (w : Int))), some v10] ∧ Same H11 H' ∧ TrS H' v10 (dqC w many z kk ws)) ?_ (fun σ' H13 p => ?_)
            · have hD12 := s12 _ _ hD11
              fail "ww"
              have eD : ((List.range ws.length).filter (wrW many ws)).map (fun (j : Nat) => V.int (j : Int)) = (((List.range ws.length).filter (wrW many ws)).map fun (j : Nat) => (j : Int)).map V.int := by rw [List.map_map]; rfl
              rcases first_cases (wrW many ws) ws.length with ⟨i0, e, _⟩ | ⟨e, hno⟩
              · have e' : eW many ws = some i0 := e
                rw [show dqC w many z kk ws = some (("command" : Str), (i0 : Int)) by unfold dqC; rw [e']]
                unfold firstN at e
                obtain ⟨rr, er⟩ : ∃ r, (List.range ws.length).filter (wrW many ws) = i0 :: r := by
                  cases g : (List.range ws.length).filter (wrW many ws) with
                  | nil => rw [g] at e; cases e
                  | cons x r => rw [g] at e; cases e; exact ⟨r, rfl⟩
                rw [er] at hD12 ⊢
                rw [decide_eq_true (by simp)]
                fail "ww"
                refine r_ixL (sq hD12) (at_of (j := 0) rfl rfl) ?_
                fail "ww"
                refine new_ fun l1 H6 n6 s6 h6 => ?_
                exact ⟨_, rfl, s12.trans s6, l1, rfl, h6⟩
              · have e' : eW many ws = none := e
                rw [show dqC w many z kk ws = dqZ w many z kk by unfold dqC; rw [e']]
                have er : (List.range ws.length).filter (wrW many ws) = [] := List.filter_eq_nil_iff.mpr fun j hj => by rw [hno j (List.mem_range.mp hj)]; decide
                rw [er, decide_eq_false (by simp)]
                fail "ww"
                exact ⟨s12, hv12⟩
            clear hv12 s12 v10
            obtain ⟨v10, rfl, s12, hv12⟩ := p
            refine r_cut (fun σ' H' => ∃ v10, σ' = [some (.ref a), some (.ref r), some (.int (0 + (i : Int))), some (.int many), some (.ref pm), y5, some (.ref D), some (.int z), some (.int kk), some (.int (0 + (w : Int))), some v10] ∧ Same H11 H' ∧ TrS H' v10 (dqS w many z kk ws)) ?_ (fun σ' H13 p => ?_)
            · fail "ww"
              refine r_dec (fun g1 => ?_) (fun g1 => ?_)
              · fail "ww"
                refine new_ fun q G m e k => ?_
                have : dqS w many z kk ws = some (("size" : Str), many) := by unfold dqS; rw [if_pos (by omega)]
                rw [this]
                exact ⟨_, rfl, s12.trans e, q, rfl, k⟩
              · fail "ww"
                have : dqS w many z kk ws = dqC w many z kk ws := by unfold dqS; rw [if_neg (by omega)]
                rw [this]
                exact ⟨s12, hv12⟩
            clear hv12 s12 v10
            obtain ⟨v10, rfl, s12, hv12⟩ := p
            fail "ww"
            refine ⟨w, many, z, kk, pm, ts, ws, (), by rw [Int.zero_add]; rfl, by omega, by omega, hkk, s12 _ _ hP11, hC11.same s12, by omega, fun H14 v s14 hv => ?_⟩
            fail "ww"
            refine r_neTr dqS_ok hv.st (hv12.same s14) ?_
            fail "ww"
            exact (s11.trans s12).trans s14
          · obtain ⟨y9, y10, rfl, s11⟩ := p
            exact ⟨_, _, _, _, _, _, _, _, _, rfl, (hR10.same s11).le (by omega)⟩
  · obtain ⟨y2, y3, y4, y5, y6, y7, y8, y9, y10, rfl, hR0⟩ := p
    fail "ww"
    exact q _
end
theorem all_mk {w : World} {K : PySem.W.Frag} {h : Heap} {mg : Str → Option Value} {l : PySem.W.OpenLaw} {fa f_sort_stretches f_descending_row f_changed_stretch f_ways_to_go_on f_longer_beginnings f_next_arrangement f_law_bag f_law_draw f_law_kind f_law_commands f_check_size f_check_script f_check_arrangement f_check_sized_script f_greatest_before f_stages f_greatest_row f_is_result f_needed_zeros f_count_sorted f_count_sorted_bits f_nth_sorted_bits f_changes f_trimmed f_results f_law_caught f_law : Addr} (X : K.In h) (G : h.Ns mainGlobals mg) (hfa : mg "law" = some (.ref fa))
    {od0 an0 od1 an1 od2 an2 od3 an3 od4 an4 od5 an5 od6 an6 od7 an7 od8 an8 od9 an9 od10 an10 od11 an11 od12 an12 od13 an13 od14 an14 od15 an15 od16 an16 od17 an17 od18 an18 od19 an19 od20 an20 od21 an21 od22 an22 od23 an23 od24 an24 od25 an25 od26 an26 : Option Addr} {sl0 sl1 sl2 sl3 sl4 sl5 sl6 sl7 sl8 sl9 sl10 sl11 sl12 sl13 sl14 sl15 sl16 sl17 sl18 sl19 sl20 sl21 sl22 sl23 sl24 sl25 sl26 : Array (Option Value)} {oc0 kV0 dc0 pm0 cd0 ct0 oc1 kV1 dc1 pm1 cd1 ct1 oc2 kV2 dc2 pm2 cd2 ct2 oc3 kV3 dc3 pm3 cd3 ct3 oc4 kV4 dc4 pm4 cd4 ct4 oc5 kV5 dc5 pm5 cd5 ct5 oc6 kV6 dc6 pm6 cd6 ct6 oc7 kV7 dc7 pm7 cd7 ct7 oc8 kV8 dc8 pm8 cd8 ct8 oc9 kV9 dc9 pm9 cd9 ct9 oc10 kV10 dc10 pm10 cd10 ct10 oc11 kV11 dc11 pm11 cd11 ct11 oc12 kV12 dc12 pm12 cd12 ct12 oc13 kV13 dc13 pm13 cd13 ct13 oc14 kV14 dc14 pm14 cd14 ct14 oc15 kV15 dc15 pm15 cd15 ct15 oc16 kV16 dc16 pm16 cd16 ct16 oc17 kV17 dc17 pm17 cd17 ct17 oc18 kV18 dc18 pm18 cd18 ct18 oc19 kV19 dc19 pm19 cd19 ct19 oc20 kV20 dc20 pm20 cd20 ct20 oc21 kV21 dc21 pm21 cd21 ct21 oc22 kV22 dc22 pm22 cd22 ct22 oc23 kV23 dc23 pm23 cd23 ct23 oc24 kV24 dc24 pm24 cd24 ct24 oc25 kV25 dc25 pm25 cd25 ct25 oc26 kV26 dc26 pm26 cd26 ct26 : Value}
    (a0 : PySem.W.nsIn K mainGlobals "sort_stretches" = some (some (.ref f_sort_stretches)))
    (l0 : K.lookup f_sort_stretches = some ⟨oc0, od0, .func (PySem.W.fnOf "sort_stretches" "sort_stretches" (defArgs s_sort_stretches) (defBody s_sort_stretches) (defScope s_sort_stretches) .none kV0 dc0 pm0 an0 cd0 ct0), sl0⟩) (c0 : PySem.W.codeIn K cd0 "sort_stretches" = true) (k0 : PySem.W.keepIn K (.ref f_sort_stretches) = true)
    (a1 : PySem.W.nsIn K mainGlobals "descending_row" = some (some (.ref f_descending_row)))
    (l1 : K.lookup f_descending_row = some ⟨oc1, od1, .func (PySem.W.fnOf "descending_row" "descending_row" (defArgs s_descending_row) (defBody s_descending_row) (defScope s_descending_row) .none kV1 dc1 pm1 an1 cd1 ct1), sl1⟩) (c1 : PySem.W.codeIn K cd1 "descending_row" = true) (k1 : PySem.W.keepIn K (.ref f_descending_row) = true)
    (a2 : PySem.W.nsIn K mainGlobals "changed_stretch" = some (some (.ref f_changed_stretch)))
    (l2 : K.lookup f_changed_stretch = some ⟨oc2, od2, .func (PySem.W.fnOf "changed_stretch" "changed_stretch" (defArgs s_changed_stretch) (defBody s_changed_stretch) (defScope s_changed_stretch) .none kV2 dc2 pm2 an2 cd2 ct2), sl2⟩) (c2 : PySem.W.codeIn K cd2 "changed_stretch" = true) (k2 : PySem.W.keepIn K (.ref f_changed_stretch) = true)
    (a3 : PySem.W.nsIn K mainGlobals "ways_to_go_on" = some (some (.ref f_ways_to_go_on)))
    (l3 : K.lookup f_ways_to_go_on = some ⟨oc3, od3, .func (PySem.W.fnOf "ways_to_go_on" "ways_to_go_on" (defArgs s_ways_to_go_on) (defBody s_ways_to_go_on) (defScope s_ways_to_go_on) .none kV3 dc3 pm3 an3 cd3 ct3), sl3⟩) (c3 : PySem.W.codeIn K cd3 "ways_to_go_on" = true) (k3 : PySem.W.keepIn K (.ref f_ways_to_go_on) = true)
    (a4 : PySem.W.nsIn K mainGlobals "longer_beginnings" = some (some (.ref f_longer_beginnings)))
    (l4 : K.lookup f_longer_beginnings = some ⟨oc4, od4, .func (PySem.W.fnOf "longer_beginnings" "longer_beginnings" (defArgs s_longer_beginnings) (defBody s_longer_beginnings) (defScope s_longer_beginnings) .none kV4 dc4 pm4 an4 cd4 ct4), sl4⟩) (c4 : PySem.W.codeIn K cd4 "longer_beginnings" = true) (k4 : PySem.W.keepIn K (.ref f_longer_beginnings) = true)
    (a5 : PySem.W.nsIn K mainGlobals "next_arrangement" = some (some (.ref f_next_arrangement)))
    (l5 : K.lookup f_next_arrangement = some ⟨oc5, od5, .func (PySem.W.fnOf "next_arrangement" "next_arrangement" (defArgs s_next_arrangement) (defBody s_next_arrangement) (defScope s_next_arrangement) .none kV5 dc5 pm5 an5 cd5 ct5), sl5⟩) (c5 : PySem.W.codeIn K cd5 "next_arrangement" = true) (k5 : PySem.W.keepIn K (.ref f_next_arrangement) = true)
    (a6 : PySem.W.nsIn K mainGlobals "_law_bag" = some (some (.ref f_law_bag)))
    (l6 : K.lookup f_law_bag = some ⟨oc6, od6, .func (PySem.W.fnOf "_law_bag" "_law_bag" (defArgs s_law_bag) (defBody s_law_bag) (defScope s_law_bag) .none kV6 dc6 pm6 an6 cd6 ct6), sl6⟩) (c6 : PySem.W.codeIn K cd6 "_law_bag" = true) (k6 : PySem.W.keepIn K (.ref f_law_bag) = true)
    (a7 : PySem.W.nsIn K mainGlobals "_law_draw" = some (some (.ref f_law_draw)))
    (l7 : K.lookup f_law_draw = some ⟨oc7, od7, .func (PySem.W.fnOf "_law_draw" "_law_draw" (defArgs s_law_draw) (defBody s_law_draw) (defScope s_law_draw) .none kV7 dc7 pm7 an7 cd7 ct7), sl7⟩) (c7 : PySem.W.codeIn K cd7 "_law_draw" = true) (k7 : PySem.W.keepIn K (.ref f_law_draw) = true)
    (a8 : PySem.W.nsIn K mainGlobals "_law_kind" = some (some (.ref f_law_kind)))
    (l8 : K.lookup f_law_kind = some ⟨oc8, od8, .func (PySem.W.fnOf "_law_kind" "_law_kind" (defArgs s_law_kind) (defBody s_law_kind) (defScope s_law_kind) .none kV8 dc8 pm8 an8 cd8 ct8), sl8⟩) (c8 : PySem.W.codeIn K cd8 "_law_kind" = true) (k8 : PySem.W.keepIn K (.ref f_law_kind) = true)
    (a9 : PySem.W.nsIn K mainGlobals "_law_commands" = some (some (.ref f_law_commands)))
    (l9 : K.lookup f_law_commands = some ⟨oc9, od9, .func (PySem.W.fnOf "_law_commands" "_law_commands" (defArgs s_law_commands) (defBody s_law_commands) (defScope s_law_commands) .none kV9 dc9 pm9 an9 cd9 ct9), sl9⟩) (c9 : PySem.W.codeIn K cd9 "_law_commands" = true) (k9 : PySem.W.keepIn K (.ref f_law_commands) = true)
    (a10 : PySem.W.nsIn K mainGlobals "check_size" = some (some (.ref f_check_size)))
    (l10 : K.lookup f_check_size = some ⟨oc10, od10, .func (PySem.W.fnOf "check_size" "check_size" (defArgs s_check_size) (defBody s_check_size) (defScope s_check_size) .none kV10 dc10 pm10 an10 cd10 ct10), sl10⟩) (c10 : PySem.W.codeIn K cd10 "check_size" = true) (k10 : PySem.W.keepIn K (.ref f_check_size) = true)
    (a11 : PySem.W.nsIn K mainGlobals "check_script" = some (some (.ref f_check_script)))
    (l11 : K.lookup f_check_script = some ⟨oc11, od11, .func (PySem.W.fnOf "check_script" "check_script" (defArgs s_check_script) (defBody s_check_script) (defScope s_check_script) .none kV11 dc11 pm11 an11 cd11 ct11), sl11⟩) (c11 : PySem.W.codeIn K cd11 "check_script" = true) (k11 : PySem.W.keepIn K (.ref f_check_script) = true)
    (a12 : PySem.W.nsIn K mainGlobals "check_arrangement" = some (some (.ref f_check_arrangement)))
    (l12 : K.lookup f_check_arrangement = some ⟨oc12, od12, .func (PySem.W.fnOf "check_arrangement" "check_arrangement" (defArgs s_check_arrangement) (defBody s_check_arrangement) (defScope s_check_arrangement) .none kV12 dc12 pm12 an12 cd12 ct12), sl12⟩) (c12 : PySem.W.codeIn K cd12 "check_arrangement" = true) (k12 : PySem.W.keepIn K (.ref f_check_arrangement) = true)
    (a13 : PySem.W.nsIn K mainGlobals "check_sized_script" = some (some (.ref f_check_sized_script)))
    (l13 : K.lookup f_check_sized_script = some ⟨oc13, od13, .func (PySem.W.fnOf "check_sized_script" "check_sized_script" (defArgs s_check_sized_script) (defBody s_check_sized_script) (defScope s_check_sized_script) .none kV13 dc13 pm13 an13 cd13 ct13), sl13⟩) (c13 : PySem.W.codeIn K cd13 "check_sized_script" = true) (k13 : PySem.W.keepIn K (.ref f_check_sized_script) = true)
    (a14 : PySem.W.nsIn K mainGlobals "greatest_before" = some (some (.ref f_greatest_before)))
    (l14 : K.lookup f_greatest_before = some ⟨oc14, od14, .func (PySem.W.fnOf "greatest_before" "greatest_before" (defArgs s_greatest_before) (defBody s_greatest_before) (defScope s_greatest_before) .none kV14 dc14 pm14 an14 cd14 ct14), sl14⟩) (c14 : PySem.W.codeIn K cd14 "greatest_before" = true) (k14 : PySem.W.keepIn K (.ref f_greatest_before) = true)
    (a15 : PySem.W.nsIn K mainGlobals "stages" = some (some (.ref f_stages)))
    (l15 : K.lookup f_stages = some ⟨oc15, od15, .func (PySem.W.fnOf "stages" "stages" (defArgs s_stages) (defBody s_stages) (defScope s_stages) .none kV15 dc15 pm15 an15 cd15 ct15), sl15⟩) (c15 : PySem.W.codeIn K cd15 "stages" = true) (k15 : PySem.W.keepIn K (.ref f_stages) = true)
    (a16 : PySem.W.nsIn K mainGlobals "greatest_row" = some (some (.ref f_greatest_row)))
    (l16 : K.lookup f_greatest_row = some ⟨oc16, od16, .func (PySem.W.fnOf "greatest_row" "greatest_row" (defArgs s_greatest_row) (defBody s_greatest_row) (defScope s_greatest_row) .none kV16 dc16 pm16 an16 cd16 ct16), sl16⟩) (c16 : PySem.W.codeIn K cd16 "greatest_row" = true) (k16 : PySem.W.keepIn K (.ref f_greatest_row) = true)
    (a17 : PySem.W.nsIn K mainGlobals "is_result" = some (some (.ref f_is_result)))
    (l17 : K.lookup f_is_result = some ⟨oc17, od17, .func (PySem.W.fnOf "is_result" "is_result" (defArgs s_is_result) (defBody s_is_result) (defScope s_is_result) .none kV17 dc17 pm17 an17 cd17 ct17), sl17⟩) (c17 : PySem.W.codeIn K cd17 "is_result" = true) (k17 : PySem.W.keepIn K (.ref f_is_result) = true)
    (a18 : PySem.W.nsIn K mainGlobals "needed_zeros" = some (some (.ref f_needed_zeros)))
    (l18 : K.lookup f_needed_zeros = some ⟨oc18, od18, .func (PySem.W.fnOf "needed_zeros" "needed_zeros" (defArgs s_needed_zeros) (defBody s_needed_zeros) (defScope s_needed_zeros) .none kV18 dc18 pm18 an18 cd18 ct18), sl18⟩) (c18 : PySem.W.codeIn K cd18 "needed_zeros" = true) (k18 : PySem.W.keepIn K (.ref f_needed_zeros) = true)
    (a19 : PySem.W.nsIn K mainGlobals "count_sorted" = some (some (.ref f_count_sorted)))
    (l19 : K.lookup f_count_sorted = some ⟨oc19, od19, .func (PySem.W.fnOf "count_sorted" "count_sorted" (defArgs s_count_sorted) (defBody s_count_sorted) (defScope s_count_sorted) .none kV19 dc19 pm19 an19 cd19 ct19), sl19⟩) (c19 : PySem.W.codeIn K cd19 "count_sorted" = true) (k19 : PySem.W.keepIn K (.ref f_count_sorted) = true)
    (a20 : PySem.W.nsIn K mainGlobals "count_sorted_bits" = some (some (.ref f_count_sorted_bits)))
    (l20 : K.lookup f_count_sorted_bits = some ⟨oc20, od20, .func (PySem.W.fnOf "count_sorted_bits" "count_sorted_bits" (defArgs s_count_sorted_bits) (defBody s_count_sorted_bits) (defScope s_count_sorted_bits) .none kV20 dc20 pm20 an20 cd20 ct20), sl20⟩) (c20 : PySem.W.codeIn K cd20 "count_sorted_bits" = true) (k20 : PySem.W.keepIn K (.ref f_count_sorted_bits) = true)
    (a21 : PySem.W.nsIn K mainGlobals "nth_sorted_bits" = some (some (.ref f_nth_sorted_bits)))
    (l21 : K.lookup f_nth_sorted_bits = some ⟨oc21, od21, .func (PySem.W.fnOf "nth_sorted_bits" "nth_sorted_bits" (defArgs s_nth_sorted_bits) (defBody s_nth_sorted_bits) (defScope s_nth_sorted_bits) .none kV21 dc21 pm21 an21 cd21 ct21), sl21⟩) (c21 : PySem.W.codeIn K cd21 "nth_sorted_bits" = true) (k21 : PySem.W.keepIn K (.ref f_nth_sorted_bits) = true)
    (a22 : PySem.W.nsIn K mainGlobals "changes" = some (some (.ref f_changes)))
    (l22 : K.lookup f_changes = some ⟨oc22, od22, .func (PySem.W.fnOf "changes" "changes" (defArgs s_changes) (defBody s_changes) (defScope s_changes) .none kV22 dc22 pm22 an22 cd22 ct22), sl22⟩) (c22 : PySem.W.codeIn K cd22 "changes" = true) (k22 : PySem.W.keepIn K (.ref f_changes) = true)
    (a23 : PySem.W.nsIn K mainGlobals "trimmed" = some (some (.ref f_trimmed)))
    (l23 : K.lookup f_trimmed = some ⟨oc23, od23, .func (PySem.W.fnOf "trimmed" "trimmed" (defArgs s_trimmed) (defBody s_trimmed) (defScope s_trimmed) .none kV23 dc23 pm23 an23 cd23 ct23), sl23⟩) (c23 : PySem.W.codeIn K cd23 "trimmed" = true) (k23 : PySem.W.keepIn K (.ref f_trimmed) = true)
    (a24 : PySem.W.nsIn K mainGlobals "results" = some (some (.ref f_results)))
    (l24 : K.lookup f_results = some ⟨oc24, od24, .func (PySem.W.fnOf "results" "results" (defArgs s_results) (defBody s_results) (defScope s_results) .none kV24 dc24 pm24 an24 cd24 ct24), sl24⟩) (c24 : PySem.W.codeIn K cd24 "results" = true) (k24 : PySem.W.keepIn K (.ref f_results) = true)
    (a25 : PySem.W.nsIn K mainGlobals "_law_caught" = some (some (.ref f_law_caught)))
    (l25 : K.lookup f_law_caught = some ⟨oc25, od25, .func (PySem.W.fnOf "_law_caught" "_law_caught" (defArgs s_law_caught) (defBody s_law_caught) (defScope s_law_caught) .none kV25 dc25 pm25 an25 cd25 ct25), sl25⟩) (c25 : PySem.W.codeIn K cd25 "_law_caught" = true) (k25 : PySem.W.keepIn K (.ref f_law_caught) = true)
    (a26 : PySem.W.nsIn K mainGlobals "law" = some (some (.ref f_law)))
    (l26 : K.lookup f_law = some ⟨oc26, od26, .func (PySem.W.fnOf "law" "law" (defArgs s_law) (defBody s_law) (defScope s_law) .none kV26 dc26 pm26 an26 cd26 ct26), sl26⟩) (c26 : PySem.W.codeIn K cd26 "law" = true) (k26 : PySem.W.keepIn K (.ref f_law) = true)
    {C_InvalidCommand C_InvalidNumber C_InvalidRow C_InvalidSize C_NothingToUndo C_SortError C_UnequalSizes C_Unreadable : Addr} {CSE : Addr}
    {ci_InvalidCommand ci_InvalidNumber ci_InvalidRow ci_InvalidSize : Addr} {nm_InvalidCommand qn_InvalidCommand nm_InvalidNumber qn_InvalidNumber nm_InvalidRow qn_InvalidRow nm_InvalidSize qn_InvalidSize : Str} {N_InvalidCommand N_InvalidNumber N_InvalidRow N_InvalidSize : Addr} {bs_InvalidCommand sub_InvalidCommand bs_InvalidNumber sub_InvalidNumber bs_InvalidRow sub_InvalidRow bs_InvalidSize sub_InvalidSize : List Value} {sn_InvalidCommand sn_InvalidNumber sn_InvalidRow sn_InvalidSize : List Str} {ab_InvalidCommand ab_InvalidNumber ab_InvalidRow ab_InvalidSize : Bool} {col_InvalidCommand col_InvalidNumber col_InvalidRow col_InvalidSize : Option Bool} {dd_InvalidCommand odi_InvalidCommand ani_InvalidCommand dd_InvalidNumber odi_InvalidNumber ani_InvalidNumber dd_InvalidRow odi_InvalidRow ani_InvalidRow dd_InvalidSize odi_InvalidSize ani_InvalidSize : Option Addr} {m0_InvalidCommand m1_InvalidCommand m2_InvalidCommand m3_InvalidCommand m5_InvalidCommand m0_InvalidNumber m1_InvalidNumber m2_InvalidNumber m3_InvalidNumber m5_InvalidNumber m0_InvalidRow m1_InvalidRow m2_InvalidRow m3_InvalidRow m5_InvalidRow m0_InvalidSize m1_InvalidSize m2_InvalidSize m3_InvalidSize m5_InvalidSize : Option Value}
    {sli_InvalidCommand sli_InvalidNumber sli_InvalidRow sli_InvalidSize : Array (Option Value)} {oci_InvalidCommand kVi_InvalidCommand dci_InvalidCommand pmi_InvalidCommand cdi_InvalidCommand cti_InvalidCommand oci_InvalidNumber kVi_InvalidNumber dci_InvalidNumber pmi_InvalidNumber cdi_InvalidNumber cti_InvalidNumber oci_InvalidRow kVi_InvalidRow dci_InvalidRow pmi_InvalidRow cdi_InvalidRow cti_InvalidRow oci_InvalidSize kVi_InvalidSize dci_InvalidSize pmi_InvalidSize cdi_InvalidSize cti_InvalidSize : Value}
    (aC_InvalidCommand : PySem.W.nsIn K mainGlobals "InvalidCommand" = some (some (.ref C_InvalidCommand)))
    (aC_InvalidNumber : PySem.W.nsIn K mainGlobals "InvalidNumber" = some (some (.ref C_InvalidNumber)))
    (aC_InvalidRow : PySem.W.nsIn K mainGlobals "InvalidRow" = some (some (.ref C_InvalidRow)))
    (aC_InvalidSize : PySem.W.nsIn K mainGlobals "InvalidSize" = some (some (.ref C_InvalidSize)))
    (aC_NothingToUndo : PySem.W.nsIn K mainGlobals "NothingToUndo" = some (some (.ref C_NothingToUndo)))
    (aC_SortError : PySem.W.nsIn K mainGlobals "SortError" = some (some (.ref C_SortError)))
    (aC_UnequalSizes : PySem.W.nsIn K mainGlobals "UnequalSizes" = some (some (.ref C_UnequalSizes)))
    (aC_Unreadable : PySem.W.nsIn K mainGlobals "Unreadable" = some (some (.ref C_Unreadable)))
    (eS : PySem.W.subIn K (.ref C_SortError) (.type "BaseException") = some true)
    (hS : PySem.W.hasDictIn K C_SortError = true)
    (tS : PySem.W.typeIn K (.ref C_SortError) = some (.type "type"))
    (nX : PySem.W.specialIn K (.builtin "object.__class__") "__get__" = some (some (.builtin "getset_descriptor.__get__")))
    (uX : PySem.W.takesIn K (.builtin "object.__class__") = some true)
    (aX_InvalidCommand : PySem.W.findIn K (.ref C_InvalidCommand) "__class__" = some (some (.builtin "object.__class__")))
    (mX_InvalidCommand : PySem.W.mroIn K C_InvalidCommand (.type "object") = some true)
    (is_InvalidCommand_InvalidCommand : PySem.W.kitOne K (.ref C_InvalidCommand) (.ref C_InvalidCommand) = some true)
    (is_InvalidCommand_InvalidNumber : PySem.W.kitOne K (.ref C_InvalidCommand) (.ref C_InvalidNumber) = some false)
    (is_InvalidCommand_InvalidRow : PySem.W.kitOne K (.ref C_InvalidCommand) (.ref C_InvalidRow) = some false)
    (is_InvalidCommand_InvalidSize : PySem.W.kitOne K (.ref C_InvalidCommand) (.ref C_InvalidSize) = some false)
    (is_InvalidCommand_NothingToUndo : PySem.W.kitOne K (.ref C_InvalidCommand) (.ref C_NothingToUndo) = some false)
    (is_InvalidCommand_UnequalSizes : PySem.W.kitOne K (.ref C_InvalidCommand) (.ref C_UnequalSizes) = some false)
    (is_InvalidCommand_Unreadable : PySem.W.kitOne K (.ref C_InvalidCommand) (.ref C_Unreadable) = some false)
    (is_InvalidCommand_ValueError : PySem.W.kitOne K (.ref C_InvalidCommand) (.type "ValueError") = some true)
    (aX_InvalidNumber : PySem.W.findIn K (.ref C_InvalidNumber) "__class__" = some (some (.builtin "object.__class__")))
    (mX_InvalidNumber : PySem.W.mroIn K C_InvalidNumber (.type "object") = some true)
    (is_InvalidNumber_InvalidCommand : PySem.W.kitOne K (.ref C_InvalidNumber) (.ref C_InvalidCommand) = some false)
    (is_InvalidNumber_InvalidNumber : PySem.W.kitOne K (.ref C_InvalidNumber) (.ref C_InvalidNumber) = some true)
    (is_InvalidNumber_InvalidRow : PySem.W.kitOne K (.ref C_InvalidNumber) (.ref C_InvalidRow) = some false)
    (is_InvalidNumber_InvalidSize : PySem.W.kitOne K (.ref C_InvalidNumber) (.ref C_InvalidSize) = some false)
    (is_InvalidNumber_NothingToUndo : PySem.W.kitOne K (.ref C_InvalidNumber) (.ref C_NothingToUndo) = some false)
    (is_InvalidNumber_UnequalSizes : PySem.W.kitOne K (.ref C_InvalidNumber) (.ref C_UnequalSizes) = some false)
    (is_InvalidNumber_Unreadable : PySem.W.kitOne K (.ref C_InvalidNumber) (.ref C_Unreadable) = some false)
    (is_InvalidNumber_ValueError : PySem.W.kitOne K (.ref C_InvalidNumber) (.type "ValueError") = some true)
    (aX_InvalidRow : PySem.W.findIn K (.ref C_InvalidRow) "__class__" = some (some (.builtin "object.__class__")))
    (mX_InvalidRow : PySem.W.mroIn K C_InvalidRow (.type "object") = some true)
    (is_InvalidRow_InvalidCommand : PySem.W.kitOne K (.ref C_InvalidRow) (.ref C_InvalidCommand) = some false)
    (is_InvalidRow_InvalidNumber : PySem.W.kitOne K (.ref C_InvalidRow) (.ref C_InvalidNumber) = some false)
    (is_InvalidRow_InvalidRow : PySem.W.kitOne K (.ref C_InvalidRow) (.ref C_InvalidRow) = some true)
    (is_InvalidRow_InvalidSize : PySem.W.kitOne K (.ref C_InvalidRow) (.ref C_InvalidSize) = some false)
    (is_InvalidRow_NothingToUndo : PySem.W.kitOne K (.ref C_InvalidRow) (.ref C_NothingToUndo) = some false)
    (is_InvalidRow_UnequalSizes : PySem.W.kitOne K (.ref C_InvalidRow) (.ref C_UnequalSizes) = some false)
    (is_InvalidRow_Unreadable : PySem.W.kitOne K (.ref C_InvalidRow) (.ref C_Unreadable) = some false)
    (is_InvalidRow_ValueError : PySem.W.kitOne K (.ref C_InvalidRow) (.type "ValueError") = some true)
    (aX_InvalidSize : PySem.W.findIn K (.ref C_InvalidSize) "__class__" = some (some (.builtin "object.__class__")))
    (mX_InvalidSize : PySem.W.mroIn K C_InvalidSize (.type "object") = some true)
    (is_InvalidSize_InvalidCommand : PySem.W.kitOne K (.ref C_InvalidSize) (.ref C_InvalidCommand) = some false)
    (is_InvalidSize_InvalidNumber : PySem.W.kitOne K (.ref C_InvalidSize) (.ref C_InvalidNumber) = some false)
    (is_InvalidSize_InvalidRow : PySem.W.kitOne K (.ref C_InvalidSize) (.ref C_InvalidRow) = some false)
    (is_InvalidSize_InvalidSize : PySem.W.kitOne K (.ref C_InvalidSize) (.ref C_InvalidSize) = some true)
    (is_InvalidSize_NothingToUndo : PySem.W.kitOne K (.ref C_InvalidSize) (.ref C_NothingToUndo) = some false)
    (is_InvalidSize_UnequalSizes : PySem.W.kitOne K (.ref C_InvalidSize) (.ref C_UnequalSizes) = some false)
    (is_InvalidSize_Unreadable : PySem.W.kitOne K (.ref C_InvalidSize) (.ref C_Unreadable) = some false)
    (is_InvalidSize_ValueError : PySem.W.kitOne K (.ref C_InvalidSize) (.type "ValueError") = some true)
    (xL_InvalidCommand : K.lookup C_InvalidCommand = some (excClassObj nm_InvalidCommand qn_InvalidCommand C_InvalidCommand N_InvalidCommand bs_InvalidCommand [.ref CSE, .type "ValueError", .type "Exception", .type "BaseException", .type "object"] true sn_InvalidCommand sub_InvalidCommand ab_InvalidCommand col_InvalidCommand dd_InvalidCommand m0_InvalidCommand m1_InvalidCommand m2_InvalidCommand m3_InvalidCommand m5_InvalidCommand "ValueError.__new__"))
    (sa_InvalidCommand : PySem.W.findIn K (.ref C_InvalidCommand) "__setattr__" = some (some (.builtin "object.__setattr__")))
    (ga_InvalidCommand : PySem.W.findIn K (.ref C_InvalidCommand) "__getattribute__" = some (some (.builtin "BaseException.__getattribute__")))
    (gg_InvalidCommand : PySem.W.findIn K (.ref C_InvalidCommand) "__getattr__" = some none)
    (nb_InvalidCommand : PySem.W.findIn K (.ref C_InvalidCommand) "value" = some none)
    (iC_InvalidCommand : PySem.W.findIn K (.ref C_InvalidCommand) "__init__" = some (some (.ref ci_InvalidCommand)))
    (tI_InvalidCommand : PySem.W.typeIn K (.ref ci_InvalidCommand) = some (.type "function"))
    (lI_InvalidCommand : K.lookup ci_InvalidCommand = some ⟨oci_InvalidCommand, odi_InvalidCommand, .func (PySem.W.fnOf "__init__" "InvalidCommand.__init__" (defArgs s_InvalidCommand_i) (defBody s_InvalidCommand_i) (defScope s_InvalidCommand_i) .none kVi_InvalidCommand dci_InvalidCommand pmi_InvalidCommand ani_InvalidCommand cdi_InvalidCommand cti_InvalidCommand), sli_InvalidCommand⟩)
    (cI_InvalidCommand : PySem.W.codeIn K cdi_InvalidCommand "InvalidCommand.__init__" = true)
    (kI_InvalidCommand : PySem.W.keepIn K (.ref ci_InvalidCommand) = true)
    (kC_InvalidCommand : PySem.W.keepIn K (.ref C_InvalidCommand) = true)
    (eC_InvalidCommand : PySem.W.subIn K (.ref C_InvalidCommand) (.type "BaseException") = some true)
    (tC_InvalidCommand : PySem.W.typeIn K (.ref C_InvalidCommand) = some (.type "type"))
    (hC_InvalidCommand : PySem.W.hasDictIn K C_InvalidCommand = true)
    (sC_InvalidCommand : PySem.W.subIn K (.ref C_InvalidCommand) (.ref C_SortError) = some true)
    (st_InvalidCommand : PySem.W.subIn K (.ref C_InvalidCommand) (.type "StopIteration") = some false)
    (xL_InvalidNumber : K.lookup C_InvalidNumber = some (excClassObj nm_InvalidNumber qn_InvalidNumber C_InvalidNumber N_InvalidNumber bs_InvalidNumber [.ref CSE, .type "ValueError", .type "Exception", .type "BaseException", .type "object"] true sn_InvalidNumber sub_InvalidNumber ab_InvalidNumber col_InvalidNumber dd_InvalidNumber m0_InvalidNumber m1_InvalidNumber m2_InvalidNumber m3_InvalidNumber m5_InvalidNumber "ValueError.__new__"))
    (sa_InvalidNumber : PySem.W.findIn K (.ref C_InvalidNumber) "__setattr__" = some (some (.builtin "object.__setattr__")))
    (ga_InvalidNumber : PySem.W.findIn K (.ref C_InvalidNumber) "__getattribute__" = some (some (.builtin "BaseException.__getattribute__")))
    (gg_InvalidNumber : PySem.W.findIn K (.ref C_InvalidNumber) "__getattr__" = some none)
    (nb_InvalidNumber : PySem.W.findIn K (.ref C_InvalidNumber) "value" = some none)
    (iC_InvalidNumber : PySem.W.findIn K (.ref C_InvalidNumber) "__init__" = some (some (.ref ci_InvalidNumber)))
    (tI_InvalidNumber : PySem.W.typeIn K (.ref ci_InvalidNumber) = some (.type "function"))
    (lI_InvalidNumber : K.lookup ci_InvalidNumber = some ⟨oci_InvalidNumber, odi_InvalidNumber, .func (PySem.W.fnOf "__init__" "InvalidNumber.__init__" (defArgs s_InvalidNumber_i) (defBody s_InvalidNumber_i) (defScope s_InvalidNumber_i) .none kVi_InvalidNumber dci_InvalidNumber pmi_InvalidNumber ani_InvalidNumber cdi_InvalidNumber cti_InvalidNumber), sli_InvalidNumber⟩)
    (cI_InvalidNumber : PySem.W.codeIn K cdi_InvalidNumber "InvalidNumber.__init__" = true)
    (kI_InvalidNumber : PySem.W.keepIn K (.ref ci_InvalidNumber) = true)
    (kC_InvalidNumber : PySem.W.keepIn K (.ref C_InvalidNumber) = true)
    (eC_InvalidNumber : PySem.W.subIn K (.ref C_InvalidNumber) (.type "BaseException") = some true)
    (tC_InvalidNumber : PySem.W.typeIn K (.ref C_InvalidNumber) = some (.type "type"))
    (hC_InvalidNumber : PySem.W.hasDictIn K C_InvalidNumber = true)
    (sC_InvalidNumber : PySem.W.subIn K (.ref C_InvalidNumber) (.ref C_SortError) = some true)
    (st_InvalidNumber : PySem.W.subIn K (.ref C_InvalidNumber) (.type "StopIteration") = some false)
    (xL_InvalidRow : K.lookup C_InvalidRow = some (excClassObj nm_InvalidRow qn_InvalidRow C_InvalidRow N_InvalidRow bs_InvalidRow [.ref CSE, .type "ValueError", .type "Exception", .type "BaseException", .type "object"] true sn_InvalidRow sub_InvalidRow ab_InvalidRow col_InvalidRow dd_InvalidRow m0_InvalidRow m1_InvalidRow m2_InvalidRow m3_InvalidRow m5_InvalidRow "ValueError.__new__"))
    (sa_InvalidRow : PySem.W.findIn K (.ref C_InvalidRow) "__setattr__" = some (some (.builtin "object.__setattr__")))
    (ga_InvalidRow : PySem.W.findIn K (.ref C_InvalidRow) "__getattribute__" = some (some (.builtin "BaseException.__getattribute__")))
    (gg_InvalidRow : PySem.W.findIn K (.ref C_InvalidRow) "__getattr__" = some none)
    (nb_InvalidRow : PySem.W.findIn K (.ref C_InvalidRow) "value" = some none)
    (iC_InvalidRow : PySem.W.findIn K (.ref C_InvalidRow) "__init__" = some (some (.ref ci_InvalidRow)))
    (tI_InvalidRow : PySem.W.typeIn K (.ref ci_InvalidRow) = some (.type "function"))
    (lI_InvalidRow : K.lookup ci_InvalidRow = some ⟨oci_InvalidRow, odi_InvalidRow, .func (PySem.W.fnOf "__init__" "InvalidRow.__init__" (defArgs s_InvalidRow_i) (defBody s_InvalidRow_i) (defScope s_InvalidRow_i) .none kVi_InvalidRow dci_InvalidRow pmi_InvalidRow ani_InvalidRow cdi_InvalidRow cti_InvalidRow), sli_InvalidRow⟩)
    (cI_InvalidRow : PySem.W.codeIn K cdi_InvalidRow "InvalidRow.__init__" = true)
    (kI_InvalidRow : PySem.W.keepIn K (.ref ci_InvalidRow) = true)
    (kC_InvalidRow : PySem.W.keepIn K (.ref C_InvalidRow) = true)
    (eC_InvalidRow : PySem.W.subIn K (.ref C_InvalidRow) (.type "BaseException") = some true)
    (tC_InvalidRow : PySem.W.typeIn K (.ref C_InvalidRow) = some (.type "type"))
    (hC_InvalidRow : PySem.W.hasDictIn K C_InvalidRow = true)
    (sC_InvalidRow : PySem.W.subIn K (.ref C_InvalidRow) (.ref C_SortError) = some true)
    (st_InvalidRow : PySem.W.subIn K (.ref C_InvalidRow) (.type "StopIteration") = some false)
    (xL_InvalidSize : K.lookup C_InvalidSize = some (excClassObj nm_InvalidSize qn_InvalidSize C_InvalidSize N_InvalidSize bs_InvalidSize [.ref CSE, .type "ValueError", .type "Exception", .type "BaseException", .type "object"] true sn_InvalidSize sub_InvalidSize ab_InvalidSize col_InvalidSize dd_InvalidSize m0_InvalidSize m1_InvalidSize m2_InvalidSize m3_InvalidSize m5_InvalidSize "ValueError.__new__"))
    (sa_InvalidSize : PySem.W.findIn K (.ref C_InvalidSize) "__setattr__" = some (some (.builtin "object.__setattr__")))
    (ga_InvalidSize : PySem.W.findIn K (.ref C_InvalidSize) "__getattribute__" = some (some (.builtin "BaseException.__getattribute__")))
    (gg_InvalidSize : PySem.W.findIn K (.ref C_InvalidSize) "__getattr__" = some none)
    (nb_InvalidSize : PySem.W.findIn K (.ref C_InvalidSize) "value" = some none)
    (iC_InvalidSize : PySem.W.findIn K (.ref C_InvalidSize) "__init__" = some (some (.ref ci_InvalidSize)))
    (tI_InvalidSize : PySem.W.typeIn K (.ref ci_InvalidSize) = some (.type "function"))
    (lI_InvalidSize : K.lookup ci_InvalidSize = some ⟨oci_InvalidSize, odi_InvalidSize, .func (PySem.W.fnOf "__init__" "InvalidSize.__init__" (defArgs s_InvalidSize_i) (defBody s_InvalidSize_i) (defScope s_InvalidSize_i) .none kVi_InvalidSize dci_InvalidSize pmi_InvalidSize ani_InvalidSize cdi_InvalidSize cti_InvalidSize), sli_InvalidSize⟩)
    (cI_InvalidSize : PySem.W.codeIn K cdi_InvalidSize "InvalidSize.__init__" = true)
    (kI_InvalidSize : PySem.W.keepIn K (.ref ci_InvalidSize) = true)
    (kC_InvalidSize : PySem.W.keepIn K (.ref C_InvalidSize) = true)
    (eC_InvalidSize : PySem.W.subIn K (.ref C_InvalidSize) (.type "BaseException") = some true)
    (tC_InvalidSize : PySem.W.typeIn K (.ref C_InvalidSize) = some (.type "type"))
    (hC_InvalidSize : PySem.W.hasDictIn K C_InvalidSize = true)
    (sC_InvalidSize : PySem.W.subIn K (.ref C_InvalidSize) (.ref C_SortError) = some true)
    (st_InvalidSize : PySem.W.subIn K (.ref C_InvalidSize) (.type "StopIteration") = some false)
    (z_ValueError : PySem.W.nsIn K mainGlobals "ValueError" = some none) (z_abs : PySem.W.nsIn K mainGlobals "abs" = some none) (z_all : PySem.W.nsIn K mainGlobals "all" = some none) (z_enumerate : PySem.W.nsIn K mainGlobals "enumerate" = some none) (z_isinstance : PySem.W.nsIn K mainGlobals "isinstance" = some none) (z_len : PySem.W.nsIn K mainGlobals "len" = some none) (z_list : PySem.W.nsIn K mainGlobals "list" = some none) (z_max : PySem.W.nsIn K mainGlobals "max" = some none) (z_min : PySem.W.nsIn K mainGlobals "min" = some none) (z_range : PySem.W.nsIn K mainGlobals "range" = some none) (z_reversed : PySem.W.nsIn K mainGlobals "reversed" = some none) (z_set : PySem.W.nsIn K mainGlobals "set" = some none) (z_sorted : PySem.W.nsIn K mainGlobals "sorted" = some none) (z_tuple : PySem.W.nsIn K mainGlobals "tuple" = some none) (z_zip : PySem.W.nsIn K mainGlobals "zip" = some none) :
    ∃ fd : FuncData, (∀ (s : Shared) (v : Value), BindsTo s fd ⟨[v], []⟩ [("script", v)]) ∧ ∀ base : Heap, K.In base → base.Ns mainGlobals mg → FnG l.prog w K mg base CX0 16 fa fd ["script"] (sp_law K) := by
  have e := hfa.symm.trans (PySem.W.mg_of X G a26)
  cases e
  have F0 := fun_mk (st := s_sort_stretches) l0 c0 k0
  have b0 := F0.binds (ps := ["row", "commands"]) fun _ _ _ _ _ _ us hl => match us, hl with | [_, _], _ => rfl
  have F1 := fun_mk (st := s_descending_row) l1 c1 k1
  have b1 := F1.binds (ps := ["size"]) fun _ _ _ _ _ _ us hl => match us, hl with | [_], _ => rfl
  have F2 := fun_mk (st := s_changed_stretch) l2 c2 k2
  have b2 := F2.binds (ps := ["before", "after"]) fun _ _ _ _ _ _ us hl => match us, hl with | [_, _], _ => rfl
  have F3 := fun_mk (st := s_ways_to_go_on) l3 c3 k3
  have b3 := F3.binds (ps := ["needed"]) fun _ _ _ _ _ _ us hl => match us, hl with | [_], _ => rfl
  have F4 := fun_mk (st := s_longer_beginnings) l4 c4 k4
  have b4 := F4.binds (ps := ["many", "limits"]) fun _ _ _ _ _ _ us hl => match us, hl with | [_, _], _ => rfl
  have F5 := fun_mk (st := s_next_arrangement) l5 c5 k5
  have b5 := F5.binds (ps := ["row"]) fun _ _ _ _ _ _ us hl => match us, hl with | [_], _ => rfl
  have F6 := fun_mk (st := s_law_bag) l6 c6 k6
  have b6 := F6.binds (ps := ["script"]) fun _ _ _ _ _ _ us hl => match us, hl with | [_], _ => rfl
  have F7 := fun_mk (st := s_law_draw) l7 c7 k7
  have b7 := F7.binds (ps := ["bag", "many"]) fun _ _ _ _ _ _ us hl => match us, hl with | [_, _], _ => rfl
  have F8 := fun_mk (st := s_law_kind) l8 c8 k8
  have b8 := F8.binds (ps := ["e"]) fun _ _ _ _ _ _ us hl => match us, hl with | [_], _ => rfl
  have F9 := fun_mk (st := s_law_commands) l9 c9 k9
  have b9 := F9.binds (ps := ["bag", "many", "most"]) fun _ _ _ _ _ _ us hl => match us, hl with | [_, _, _], _ => rfl
  have F10 := fun_mk (st := s_check_size) l10 c10 k10
  have b10 := F10.binds (ps := ["size"]) fun _ _ _ _ _ _ us hl => match us, hl with | [_], _ => rfl
  have F11 := fun_mk (st := s_check_script) l11 c11 k11
  have b11 := F11.binds (ps := ["size", "commands"]) fun _ _ _ _ _ _ us hl => match us, hl with | [_, _], _ => rfl
  have F12 := fun_mk (st := s_check_arrangement) l12 c12 k12
  have b12 := F12.binds (ps := ["row"]) fun _ _ _ _ _ _ us hl => match us, hl with | [_], _ => rfl
  have F13 := fun_mk (st := s_check_sized_script) l13 c13 k13
  have b13 := F13.binds (ps := ["size", "commands"]) fun _ _ _ _ _ _ us hl => match us, hl with | [_, _], _ => rfl
  have F14 := fun_mk (st := s_greatest_before) l14 c14 k14
  have b14 := F14.binds (ps := ["commands", "row"]) fun _ _ _ _ _ _ us hl => match us, hl with | [_, _], _ => rfl
  have F15 := fun_mk (st := s_stages) l15 c15 k15
  have b15 := F15.binds (ps := ["row", "commands"]) fun _ _ _ _ _ _ us hl => match us, hl with | [_, _], _ => rfl
  have F16 := fun_mk (st := s_greatest_row) l16 c16 k16
  have b16 := F16.binds (ps := ["size", "commands"]) fun _ _ _ _ _ _ us hl => match us, hl with | [_, _], _ => rfl
  have F17 := fun_mk (st := s_is_result) l17 c17 k17
  have b17 := F17.binds (ps := ["row", "commands"]) fun _ _ _ _ _ _ us hl => match us, hl with | [_, _], _ => rfl
  have F18 := fun_mk (st := s_needed_zeros) l18 c18 k18
  have b18 := F18.binds (ps := ["size", "commands", "zeros"]) fun _ _ _ _ _ _ us hl => match us, hl with | [_, _, _], _ => rfl
  have F19 := fun_mk (st := s_count_sorted) l19 c19 k19
  have b19 := F19.binds (ps := ["size", "commands"]) fun _ _ _ _ _ _ us hl => match us, hl with | [_, _], _ => rfl
  have F20 := fun_mk (st := s_count_sorted_bits) l20 c20 k20
  have b20 := F20.binds (ps := ["size", "commands", "zeros"]) fun _ _ _ _ _ _ us hl => match us, hl with | [_, _, _], _ => rfl
  have F21 := fun_mk (st := s_nth_sorted_bits) l21 c21 k21
  have b21 := F21.binds (ps := ["size", "commands", "zeros", "number"]) fun _ _ _ _ _ _ us hl => match us, hl with | [_, _, _, _], _ => rfl
  have F22 := fun_mk (st := s_changes) l22 c22 k22
  have b22 := F22.binds (ps := ["size", "commands"]) fun _ _ _ _ _ _ us hl => match us, hl with | [_, _], _ => rfl
  have F23 := fun_mk (st := s_trimmed) l23 c23 k23
  have b23 := F23.binds (ps := ["size", "commands"]) fun _ _ _ _ _ _ us hl => match us, hl with | [_, _], _ => rfl
  have F24 := fun_mk (st := s_results) l24 c24 k24
  have b24 := F24.binds (ps := ["size", "commands"]) fun _ _ _ _ _ _ us hl => match us, hl with | [_, _], _ => rfl
  have F25 := fun_mk (st := s_law_caught) l25 c25 k25
  have b25 := F25.binds (ps := ["which", "many", "moves", "nought", "spot"]) fun _ _ _ _ _ _ us hl => match us, hl with | [_, _, _, _, _], _ => rfl
  have F26 := fun_mk (st := s_law) l26 c26 k26
  have b26 := F26.binds (ps := ["script"]) fun _ _ _ _ _ _ us hl => match us, hl with | [_], _ => rfl
  have FI_InvalidCommand := fun_mk (st := s_InvalidCommand_i) lI_InvalidCommand cI_InvalidCommand kI_InvalidCommand
  have bI_InvalidCommand := FI_InvalidCommand.binds (ps := ["self", "value"]) fun _ _ _ _ _ _ us hl => match us, hl with | [_, _], _ => rfl
  have E_InvalidCommand : ErrC K mg "InvalidCommand" C_SortError C_InvalidCommand ci_InvalidCommand := ⟨PySem.W.mg_of X G aC_InvalidCommand, ⟨⟨_, _, _, _, _, _, _, _, _, _, _, _, _, _, _, xL_InvalidCommand, rfl⟩, sa_InvalidCommand, eC_InvalidCommand, tC_InvalidCommand, kC_InvalidCommand⟩, iC_InvalidCommand, tI_InvalidCommand, ⟨ga_InvalidCommand, gg_InvalidCommand, eC_InvalidCommand, hC_InvalidCommand⟩, nb_InvalidCommand, PySem.W.exm_ref eS hS tS sC_InvalidCommand⟩
  have FI_InvalidNumber := fun_mk (st := s_InvalidNumber_i) lI_InvalidNumber cI_InvalidNumber kI_InvalidNumber
  have bI_InvalidNumber := FI_InvalidNumber.binds (ps := ["self", "value"]) fun _ _ _ _ _ _ us hl => match us, hl with | [_, _], _ => rfl
  have E_InvalidNumber : ErrC K mg "InvalidNumber" C_SortError C_InvalidNumber ci_InvalidNumber := ⟨PySem.W.mg_of X G aC_InvalidNumber, ⟨⟨_, _, _, _, _, _, _, _, _, _, _, _, _, _, _, xL_InvalidNumber, rfl⟩, sa_InvalidNumber, eC_InvalidNumber, tC_InvalidNumber, kC_InvalidNumber⟩, iC_InvalidNumber, tI_InvalidNumber, ⟨ga_InvalidNumber, gg_InvalidNumber, eC_InvalidNumber, hC_InvalidNumber⟩, nb_InvalidNumber, PySem.W.exm_ref eS hS tS sC_InvalidNumber⟩
  have FI_InvalidRow := fun_mk (st := s_InvalidRow_i) lI_InvalidRow cI_InvalidRow kI_InvalidRow
  have bI_InvalidRow := FI_InvalidRow.binds (ps := ["self", "value"]) fun _ _ _ _ _ _ us hl => match us, hl with | [_, _], _ => rfl
  have E_InvalidRow : ErrC K mg "InvalidRow" C_SortError C_InvalidRow ci_InvalidRow := ⟨PySem.W.mg_of X G aC_InvalidRow, ⟨⟨_, _, _, _, _, _, _, _, _, _, _, _, _, _, _, xL_InvalidRow, rfl⟩, sa_InvalidRow, eC_InvalidRow, tC_InvalidRow, kC_InvalidRow⟩, iC_InvalidRow, tI_InvalidRow, ⟨ga_InvalidRow, gg_InvalidRow, eC_InvalidRow, hC_InvalidRow⟩, nb_InvalidRow, PySem.W.exm_ref eS hS tS sC_InvalidRow⟩
  have FI_InvalidSize := fun_mk (st := s_InvalidSize_i) lI_InvalidSize cI_InvalidSize kI_InvalidSize
  have bI_InvalidSize := FI_InvalidSize.binds (ps := ["self", "value"]) fun _ _ _ _ _ _ us hl => match us, hl with | [_, _], _ => rfl
  have E_InvalidSize : ErrC K mg "InvalidSize" C_SortError C_InvalidSize ci_InvalidSize := ⟨PySem.W.mg_of X G aC_InvalidSize, ⟨⟨_, _, _, _, _, _, _, _, _, _, _, _, _, _, _, xL_InvalidSize, rfl⟩, sa_InvalidSize, eC_InvalidSize, tC_InvalidSize, kC_InvalidSize⟩, iC_InvalidSize, tI_InvalidSize, ⟨ga_InvalidSize, gg_InvalidSize, eC_InvalidSize, hC_InvalidSize⟩, nb_InvalidSize, PySem.W.exm_ref eS hS tS sC_InvalidSize⟩
  let T : Txt K mg := { InvalidCommand_a := C_InvalidCommand, InvalidCommand_g := PySem.W.mg_of X G aC_InvalidCommand, InvalidNumber_a := C_InvalidNumber, InvalidNumber_g := PySem.W.mg_of X G aC_InvalidNumber, InvalidRow_a := C_InvalidRow, InvalidRow_g := PySem.W.mg_of X G aC_InvalidRow, InvalidSize_a := C_InvalidSize, InvalidSize_g := PySem.W.mg_of X G aC_InvalidSize, NothingToUndo_a := C_NothingToUndo, NothingToUndo_g := PySem.W.mg_of X G aC_NothingToUndo, SortError_a := C_SortError, SortError_g := PySem.W.mg_of X G aC_SortError, UnequalSizes_a := C_UnequalSizes, UnequalSizes_g := PySem.W.mg_of X G aC_UnequalSizes, Unreadable_a := C_Unreadable, Unreadable_g := PySem.W.mg_of X G aC_Unreadable, InvalidCommand_i_a := ci_InvalidCommand, InvalidCommand_i_d := _, InvalidCommand_i_F := FI_InvalidCommand, InvalidCommand_i_b := bI_InvalidCommand, InvalidCommand_E := E_InvalidCommand, InvalidCommand_st := st_InvalidCommand, InvalidCommand_X := ⟨ga_InvalidCommand, gg_InvalidCommand, eC_InvalidCommand, hC_InvalidCommand, aX_InvalidCommand, nX, uX, mX_InvalidCommand⟩, InvalidCommand_is_InvalidCommand := is_InvalidCommand_InvalidCommand, InvalidCommand_is_InvalidNumber := is_InvalidCommand_InvalidNumber, InvalidCommand_is_InvalidRow := is_InvalidCommand_InvalidRow, InvalidCommand_is_InvalidSize := is_InvalidCommand_InvalidSize, InvalidCommand_is_NothingToUndo := is_InvalidCommand_NothingToUndo, InvalidCommand_is_UnequalSizes := is_InvalidCommand_UnequalSizes, InvalidCommand_is_Unreadable := is_InvalidCommand_Unreadable, InvalidCommand_is_ValueError := is_InvalidCommand_ValueError, InvalidNumber_i_a := ci_InvalidNumber, InvalidNumber_i_d := _, InvalidNumber_i_F := FI_InvalidNumber, InvalidNumber_i_b := bI_InvalidNumber, InvalidNumber_E := E_InvalidNumber, InvalidNumber_st := st_InvalidNumber, InvalidNumber_X := ⟨ga_InvalidNumber, gg_InvalidNumber, eC_InvalidNumber, hC_InvalidNumber, aX_InvalidNumber, nX, uX, mX_InvalidNumber⟩, InvalidNumber_is_InvalidCommand := is_InvalidNumber_InvalidCommand, InvalidNumber_is_InvalidNumber := is_InvalidNumber_InvalidNumber, InvalidNumber_is_InvalidRow := is_InvalidNumber_InvalidRow, InvalidNumber_is_InvalidSize := is_InvalidNumber_InvalidSize, InvalidNumber_is_NothingToUndo := is_InvalidNumber_NothingToUndo, InvalidNumber_is_UnequalSizes := is_InvalidNumber_UnequalSizes, InvalidNumber_is_Unreadable := is_InvalidNumber_Unreadable, InvalidNumber_is_ValueError := is_InvalidNumber_ValueError, InvalidRow_i_a := ci_InvalidRow, InvalidRow_i_d := _, InvalidRow_i_F := FI_InvalidRow, InvalidRow_i_b := bI_InvalidRow, InvalidRow_E := E_InvalidRow, InvalidRow_st := st_InvalidRow, InvalidRow_X := ⟨ga_InvalidRow, gg_InvalidRow, eC_InvalidRow, hC_InvalidRow, aX_InvalidRow, nX, uX, mX_InvalidRow⟩, InvalidRow_is_InvalidCommand := is_InvalidRow_InvalidCommand, InvalidRow_is_InvalidNumber := is_InvalidRow_InvalidNumber, InvalidRow_is_InvalidRow := is_InvalidRow_InvalidRow, InvalidRow_is_InvalidSize := is_InvalidRow_InvalidSize, InvalidRow_is_NothingToUndo := is_InvalidRow_NothingToUndo, InvalidRow_is_UnequalSizes := is_InvalidRow_UnequalSizes, InvalidRow_is_Unreadable := is_InvalidRow_Unreadable, InvalidRow_is_ValueError := is_InvalidRow_ValueError, InvalidSize_i_a := ci_InvalidSize, InvalidSize_i_d := _, InvalidSize_i_F := FI_InvalidSize, InvalidSize_i_b := bI_InvalidSize, InvalidSize_E := E_InvalidSize, InvalidSize_st := st_InvalidSize, InvalidSize_X := ⟨ga_InvalidSize, gg_InvalidSize, eC_InvalidSize, hC_InvalidSize, aX_InvalidSize, nX, uX, mX_InvalidSize⟩, InvalidSize_is_InvalidCommand := is_InvalidSize_InvalidCommand, InvalidSize_is_InvalidNumber := is_InvalidSize_InvalidNumber, InvalidSize_is_InvalidRow := is_InvalidSize_InvalidRow, InvalidSize_is_InvalidSize := is_InvalidSize_InvalidSize, InvalidSize_is_NothingToUndo := is_InvalidSize_NothingToUndo, InvalidSize_is_UnequalSizes := is_InvalidSize_UnequalSizes, InvalidSize_is_Unreadable := is_InvalidSize_Unreadable, InvalidSize_is_ValueError := is_InvalidSize_ValueError, sort_stretches_a := f_sort_stretches, sort_stretches_d := _, sort_stretches_F := F0, sort_stretches_b := b0, sort_stretches_g := PySem.W.mg_of X G a0, descending_row_a := f_descending_row, descending_row_d := _, descending_row_F := F1, descending_row_b := b1, descending_row_g := PySem.W.mg_of X G a1, changed_stretch_a := f_changed_stretch, changed_stretch_d := _, changed_stretch_F := F2, changed_stretch_b := b2, changed_stretch_g := PySem.W.mg_of X G a2, ways_to_go_on_a := f_ways_to_go_on, ways_to_go_on_d := _, ways_to_go_on_F := F3, ways_to_go_on_b := b3, ways_to_go_on_g := PySem.W.mg_of X G a3, longer_beginnings_a := f_longer_beginnings, longer_beginnings_d := _, longer_beginnings_F := F4, longer_beginnings_b := b4, longer_beginnings_g := PySem.W.mg_of X G a4, next_arrangement_a := f_next_arrangement, next_arrangement_d := _, next_arrangement_F := F5, next_arrangement_b := b5, next_arrangement_g := PySem.W.mg_of X G a5, law_bag_a := f_law_bag, law_bag_d := _, law_bag_F := F6, law_bag_b := b6, law_bag_g := PySem.W.mg_of X G a6, law_draw_a := f_law_draw, law_draw_d := _, law_draw_F := F7, law_draw_b := b7, law_draw_g := PySem.W.mg_of X G a7, law_kind_a := f_law_kind, law_kind_d := _, law_kind_F := F8, law_kind_b := b8, law_kind_g := PySem.W.mg_of X G a8, law_commands_a := f_law_commands, law_commands_d := _, law_commands_F := F9, law_commands_b := b9, law_commands_g := PySem.W.mg_of X G a9, check_size_a := f_check_size, check_size_d := _, check_size_F := F10, check_size_b := b10, check_size_g := PySem.W.mg_of X G a10, check_script_a := f_check_script, check_script_d := _, check_script_F := F11, check_script_b := b11, check_script_g := PySem.W.mg_of X G a11, check_arrangement_a := f_check_arrangement, check_arrangement_d := _, check_arrangement_F := F12, check_arrangement_b := b12, check_arrangement_g := PySem.W.mg_of X G a12, check_sized_script_a := f_check_sized_script, check_sized_script_d := _, check_sized_script_F := F13, check_sized_script_b := b13, check_sized_script_g := PySem.W.mg_of X G a13, greatest_before_a := f_greatest_before, greatest_before_d := _, greatest_before_F := F14, greatest_before_b := b14, greatest_before_g := PySem.W.mg_of X G a14, stages_a := f_stages, stages_d := _, stages_F := F15, stages_b := b15, stages_g := PySem.W.mg_of X G a15, greatest_row_a := f_greatest_row, greatest_row_d := _, greatest_row_F := F16, greatest_row_b := b16, greatest_row_g := PySem.W.mg_of X G a16, is_result_a := f_is_result, is_result_d := _, is_result_F := F17, is_result_b := b17, is_result_g := PySem.W.mg_of X G a17, needed_zeros_a := f_needed_zeros, needed_zeros_d := _, needed_zeros_F := F18, needed_zeros_b := b18, needed_zeros_g := PySem.W.mg_of X G a18, count_sorted_a := f_count_sorted, count_sorted_d := _, count_sorted_F := F19, count_sorted_b := b19, count_sorted_g := PySem.W.mg_of X G a19, count_sorted_bits_a := f_count_sorted_bits, count_sorted_bits_d := _, count_sorted_bits_F := F20, count_sorted_bits_b := b20, count_sorted_bits_g := PySem.W.mg_of X G a20, nth_sorted_bits_a := f_nth_sorted_bits, nth_sorted_bits_d := _, nth_sorted_bits_F := F21, nth_sorted_bits_b := b21, nth_sorted_bits_g := PySem.W.mg_of X G a21, changes_a := f_changes, changes_d := _, changes_F := F22, changes_b := b22, changes_g := PySem.W.mg_of X G a22, trimmed_a := f_trimmed, trimmed_d := _, trimmed_F := F23, trimmed_b := b23, trimmed_g := PySem.W.mg_of X G a23, results_a := f_results, results_d := _, results_F := F24, results_b := b24, results_g := PySem.W.mg_of X G a24, law_caught_a := f_law_caught, law_caught_d := _, law_caught_F := F25, law_caught_b := b25, law_caught_g := PySem.W.mg_of X G a25, law_a := fa, law_d := _, law_F := F26, law_b := b26, law_g := PySem.W.mg_of X G a26, m_ValueError := PySem.W.mg_none_of X G z_ValueError, m_abs := PySem.W.mg_none_of X G z_abs, m_all := PySem.W.mg_none_of X G z_all, m_enumerate := PySem.W.mg_none_of X G z_enumerate, m_isinstance := PySem.W.mg_none_of X G z_isinstance, m_len := PySem.W.mg_none_of X G z_len, m_list := PySem.W.mg_none_of X G z_list, m_max := PySem.W.mg_none_of X G z_max, m_min := PySem.W.mg_none_of X G z_min, m_range := PySem.W.mg_none_of X G z_range, m_reversed := PySem.W.mg_none_of X G z_reversed, m_set := PySem.W.mg_none_of X G z_set, m_sorted := PySem.W.mg_none_of X G z_sorted, m_tuple := PySem.W.mg_none_of X G z_tuple, m_zip := PySem.W.mg_none_of X G z_zip }
  exact ⟨PySem.W.fnOf "law" "law" (defArgs s_law) (defBody s_law) (defScope s_law) .none kV26 dc26 pm26 an26 cd26 ct26, fun s v => .of_eq rfl, fun base _ _ => ok_law T⟩
end L41
open PySem PySem.W PyProof.Rows
set_option maxHeartbeats 0 in
theorem PySem.Challenge.cw_sortstretches_k41_counting_errors_holds : PySem.Challenge.rw_sortstretches_k41_counting_errors.Holds := by
  w_on; o_law; k_head; (case hw => w_witness2)
  k_fill
  refine Xk.walkG (l := PySem.Challenge.rw_sortstretches_k41_counting_errors) (m := 63) (n := 16) (x := "script") (CX := L2.CX0) (sp := L41.sp_law) rfl (by decide) rfl ⟨rfl, by decide, by decide⟩ (fun w h Y => PySem.W.kIn_of Y) ?F (fun K H a ns hl hO hS => ⟨a, ns, rfl, hS, hl, fun _ => rfl⟩) (fun _ _ _ _ h => h)
  case F =>
    intro w mg fa h KX G hmg
    refine' L41.all_mk KX G hmg ?a0 ?l0 ?c0 ?k0 ?a1 ?l1 ?c1 ?k1 ?a2 ?l2 ?c2 ?k2 ?a3 ?l3 ?c3 ?k3 ?a4 ?l4 ?c4 ?k4 ?a5 ?l5 ?c5 ?k5 ?a6 ?l6 ?c6 ?k6 ?a7 ?l7 ?c7 ?k7 ?a8 ?l8 ?c8 ?k8 ?a9 ?l9 ?c9 ?k9 ?a10 ?l10 ?c10 ?k10 ?a11 ?l11 ?c11 ?k11 ?a12 ?l12 ?c12 ?k12 ?a13 ?l13 ?c13 ?k13 ?a14 ?l14 ?c14 ?k14 ?a15 ?l15 ?c15 ?k15 ?a16 ?l16 ?c16 ?k16 ?a17 ?l17 ?c17 ?k17 ?a18 ?l18 ?c18 ?k18 ?a19 ?l19 ?c19 ?k19 ?a20 ?l20 ?c20 ?k20 ?a21 ?l21 ?c21 ?k21 ?a22 ?l22 ?c22 ?k22 ?a23 ?l23 ?c23 ?k23 ?a24 ?l24 ?c24 ?k24 ?a25 ?l25 ?c25 ?k25 ?a26 ?l26 ?c26 ?k26 ?aC_InvalidCommand ?aC_InvalidNumber ?aC_InvalidRow ?aC_InvalidSize ?aC_NothingToUndo ?aC_SortError ?aC_UnequalSizes ?aC_Unreadable ?eS ?hS ?tS ?nX ?uX ?aX_InvalidCommand ?mX_InvalidCommand ?is_InvalidCommand_InvalidCommand ?is_InvalidCommand_InvalidNumber ?is_InvalidCommand_InvalidRow ?is_InvalidCommand_InvalidSize ?is_InvalidCommand_NothingToUndo ?is_InvalidCommand_UnequalSizes ?is_InvalidCommand_Unreadable ?is_InvalidCommand_ValueError ?aX_InvalidNumber ?mX_InvalidNumber ?is_InvalidNumber_InvalidCommand ?is_InvalidNumber_InvalidNumber ?is_InvalidNumber_InvalidRow ?is_InvalidNumber_InvalidSize ?is_InvalidNumber_NothingToUndo ?is_InvalidNumber_UnequalSizes ?is_InvalidNumber_Unreadable ?is_InvalidNumber_ValueError ?aX_InvalidRow ?mX_InvalidRow ?is_InvalidRow_InvalidCommand ?is_InvalidRow_InvalidNumber ?is_InvalidRow_InvalidRow ?is_InvalidRow_InvalidSize ?is_InvalidRow_NothingToUndo ?is_InvalidRow_UnequalSizes ?is_InvalidRow_Unreadable ?is_InvalidRow_ValueError ?aX_InvalidSize ?mX_InvalidSize ?is_InvalidSize_InvalidCommand ?is_InvalidSize_InvalidNumber ?is_InvalidSize_InvalidRow ?is_InvalidSize_InvalidSize ?is_InvalidSize_NothingToUndo ?is_InvalidSize_UnequalSizes ?is_InvalidSize_Unreadable ?is_InvalidSize_ValueError ?xL_InvalidCommand ?sa_InvalidCommand ?ga_InvalidCommand ?gg_InvalidCommand ?nb_InvalidCommand ?iC_InvalidCommand ?tI_InvalidCommand ?lI_InvalidCommand ?cI_InvalidCommand ?kI_InvalidCommand ?kC_InvalidCommand ?eC_InvalidCommand ?tC_InvalidCommand ?hC_InvalidCommand ?sC_InvalidCommand ?st_InvalidCommand ?xL_InvalidNumber ?sa_InvalidNumber ?ga_InvalidNumber ?gg_InvalidNumber ?nb_InvalidNumber ?iC_InvalidNumber ?tI_InvalidNumber ?lI_InvalidNumber ?cI_InvalidNumber ?kI_InvalidNumber ?kC_InvalidNumber ?eC_InvalidNumber ?tC_InvalidNumber ?hC_InvalidNumber ?sC_InvalidNumber ?st_InvalidNumber ?xL_InvalidRow ?sa_InvalidRow ?ga_InvalidRow ?gg_InvalidRow ?nb_InvalidRow ?iC_InvalidRow ?tI_InvalidRow ?lI_InvalidRow ?cI_InvalidRow ?kI_InvalidRow ?kC_InvalidRow ?eC_InvalidRow ?tC_InvalidRow ?hC_InvalidRow ?sC_InvalidRow ?st_InvalidRow ?xL_InvalidSize ?sa_InvalidSize ?ga_InvalidSize ?gg_InvalidSize ?nb_InvalidSize ?iC_InvalidSize ?tI_InvalidSize ?lI_InvalidSize ?cI_InvalidSize ?kI_InvalidSize ?kC_InvalidSize ?eC_InvalidSize ?tC_InvalidSize ?hC_InvalidSize ?sC_InvalidSize ?st_InvalidSize ?z_ValueError ?z_abs ?z_all ?z_enumerate ?z_isinstance ?z_len ?z_list ?z_max ?z_min ?z_range ?z_reversed ?z_set ?z_sorted ?z_tuple ?z_zip
    (case aC_InvalidCommand => k_is); (case aC_InvalidNumber => k_is); (case aC_InvalidRow => k_is); (case aC_InvalidSize => k_is); (case aC_NothingToUndo => k_is); (case aC_SortError => k_is); (case aC_UnequalSizes => k_is); (case aC_Unreadable => k_is); (case a0 => k_is); (case l0 => k_is); (case c0 => k_is); (case k0 => k_is); (case a1 => k_is); (case l1 => k_is); (case c1 => k_is); (case k1 => k_is); (case a2 => k_is); (case l2 => k_is); (case c2 => k_is); (case k2 => k_is); (case a3 => k_is); (case l3 => k_is); (case c3 => k_is); (case k3 => k_is); (case a4 => k_is); (case l4 => k_is); (case c4 => k_is); (case k4 => k_is); (case a5 => k_is); (case l5 => k_is); (case c5 => k_is); (case k5 => k_is); (case a6 => k_is); (case l6 => k_is); (case c6 => k_is); (case k6 => k_is); (case a7 => k_is); (case l7 => k_is); (case c7 => k_is); (case k7 => k_is); (case a8 => k_is); (case l8 => k_is); (case c8 => k_is); (case k8 => k_is); (case a9 => k_is); (case l9 => k_is); (case c9 => k_is); (case k9 => k_is); (case a10 => k_is); (case l10 => k_is); (case c10 => k_is); (case k10 => k_is); (case a11 => k_is); (case l11 => k_is); (case c11 => k_is); (case k11 => k_is); (case a12 => k_is); (case l12 => k_is); (case c12 => k_is); (case k12 => k_is); (case a13 => k_is); (case l13 => k_is); (case c13 => k_is); (case k13 => k_is); (case a14 => k_is); (case l14 => k_is); (case c14 => k_is); (case k14 => k_is); (case a15 => k_is); (case l15 => k_is); (case c15 => k_is); (case k15 => k_is); (case a16 => k_is); (case l16 => k_is); (case c16 => k_is); (case k16 => k_is); (case a17 => k_is); (case l17 => k_is); (case c17 => k_is); (case k17 => k_is); (case a18 => k_is); (case l18 => k_is); (case c18 => k_is); (case k18 => k_is); (case a19 => k_is); (case l19 => k_is); (case c19 => k_is); (case k19 => k_is); (case a20 => k_is); (case l20 => k_is); (case c20 => k_is); (case k20 => k_is); (case a21 => k_is); (case l21 => k_is); (case c21 => k_is); (case k21 => k_is); (case a22 => k_is); (case l22 => k_is); (case c22 => k_is); (case k22 => k_is); (case a23 => k_is); (case l23 => k_is); (case c23 => k_is); (case k23 => k_is); (case a24 => k_is); (case l24 => k_is); (case c24 => k_is); (case k24 => k_is); (case a25 => k_is); (case l25 => k_is); (case c25 => k_is); (case k25 => k_is); (case a26 => k_is); (case l26 => k_is); (case c26 => k_is); (case k26 => k_is); (case eS => k_is); (case hS => k_is); (case tS => k_is); (case nX => k_is); (case uX => k_is); (case aX_InvalidCommand => k_is); (case mX_InvalidCommand => k_is); (case is_InvalidCommand_InvalidCommand => kit_is); (case is_InvalidCommand_InvalidNumber => kit_is); (case is_InvalidCommand_InvalidRow => kit_is); (case is_InvalidCommand_InvalidSize => kit_is); (case is_InvalidCommand_NothingToUndo => kit_is); (case is_InvalidCommand_UnequalSizes => kit_is); (case is_InvalidCommand_Unreadable => kit_is); (case is_InvalidCommand_ValueError => kit_is); (case aX_InvalidNumber => k_is); (case mX_InvalidNumber => k_is); (case is_InvalidNumber_InvalidCommand => kit_is); (case is_InvalidNumber_InvalidNumber => kit_is); (case is_InvalidNumber_InvalidRow => kit_is); (case is_InvalidNumber_InvalidSize => kit_is); (case is_InvalidNumber_NothingToUndo => kit_is); (case is_InvalidNumber_UnequalSizes => kit_is); (case is_InvalidNumber_Unreadable => kit_is); (case is_InvalidNumber_ValueError => kit_is); (case aX_InvalidRow => k_is); (case mX_InvalidRow => k_is); (case is_InvalidRow_InvalidCommand => kit_is); (case is_InvalidRow_InvalidNumber => kit_is); (case is_InvalidRow_InvalidRow => kit_is); (case is_InvalidRow_InvalidSize => kit_is); (case is_InvalidRow_NothingToUndo => kit_is); (case is_InvalidRow_UnequalSizes => kit_is); (case is_InvalidRow_Unreadable => kit_is); (case is_InvalidRow_ValueError => kit_is); (case aX_InvalidSize => k_is); (case mX_InvalidSize => k_is); (case is_InvalidSize_InvalidCommand => kit_is); (case is_InvalidSize_InvalidNumber => kit_is); (case is_InvalidSize_InvalidRow => kit_is); (case is_InvalidSize_InvalidSize => kit_is); (case is_InvalidSize_NothingToUndo => kit_is); (case is_InvalidSize_UnequalSizes => kit_is); (case is_InvalidSize_Unreadable => kit_is); (case is_InvalidSize_ValueError => kit_is); (case xL_InvalidCommand => k_is); (case sa_InvalidCommand => k_is); (case ga_InvalidCommand => k_is); (case gg_InvalidCommand => k_is); (case nb_InvalidCommand => k_is); (case iC_InvalidCommand => k_is); (case tI_InvalidCommand => k_is); (case lI_InvalidCommand => k_is); (case cI_InvalidCommand => k_is); (case kI_InvalidCommand => k_is); (case kC_InvalidCommand => k_is); (case eC_InvalidCommand => k_is); (case tC_InvalidCommand => k_is); (case hC_InvalidCommand => k_is); (case sC_InvalidCommand => k_is); (case st_InvalidCommand => k_is); (case xL_InvalidNumber => k_is); (case sa_InvalidNumber => k_is); (case ga_InvalidNumber => k_is); (case gg_InvalidNumber => k_is); (case nb_InvalidNumber => k_is); (case iC_InvalidNumber => k_is); (case tI_InvalidNumber => k_is); (case lI_InvalidNumber => k_is); (case cI_InvalidNumber => k_is); (case kI_InvalidNumber => k_is); (case kC_InvalidNumber => k_is); (case eC_InvalidNumber => k_is); (case tC_InvalidNumber => k_is); (case hC_InvalidNumber => k_is); (case sC_InvalidNumber => k_is); (case st_InvalidNumber => k_is); (case xL_InvalidRow => k_is); (case sa_InvalidRow => k_is); (case ga_InvalidRow => k_is); (case gg_InvalidRow => k_is); (case nb_InvalidRow => k_is); (case iC_InvalidRow => k_is); (case tI_InvalidRow => k_is); (case lI_InvalidRow => k_is); (case cI_InvalidRow => k_is); (case kI_InvalidRow => k_is); (case kC_InvalidRow => k_is); (case eC_InvalidRow => k_is); (case tC_InvalidRow => k_is); (case hC_InvalidRow => k_is); (case sC_InvalidRow => k_is); (case st_InvalidRow => k_is); (case xL_InvalidSize => k_is); (case sa_InvalidSize => k_is); (case ga_InvalidSize => k_is); (case gg_InvalidSize => k_is); (case nb_InvalidSize => k_is); (case iC_InvalidSize => k_is); (case tI_InvalidSize => k_is); (case lI_InvalidSize => k_is); (case cI_InvalidSize => k_is); (case kI_InvalidSize => k_is); (case kC_InvalidSize => k_is); (case eC_InvalidSize => k_is); (case tC_InvalidSize => k_is); (case hC_InvalidSize => k_is); (case sC_InvalidSize => k_is); (case st_InvalidSize => k_is); (case z_ValueError => k_is); (case z_abs => k_is); (case z_all => k_is); (case z_enumerate => k_is); (case z_isinstance => k_is); (case z_len => k_is); (case z_list => k_is); (case z_max => k_is); (case z_min => k_is); (case z_range => k_is); (case z_reversed => k_is); (case z_set => k_is); (case z_sorted => k_is); (case z_tuple => k_is); (case z_zip => k_is)

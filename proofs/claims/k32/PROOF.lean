import PyProof.Rows.All
import Wide.All
import OpenK.AllK
import Wide.FinOn
import HandS.Base
import HandS.Call
import HandS.List
import HandS.Ends
import HandS.Wide
import HandS.Iter
import HandS.Conv
import HandS.ForMost
import HandS.ForExc
import HandS.SortInts
import HandS.SortKw
import HandS.SetFor
import HandS.Style
import HandS.Codes
import HandS.Strs
import HandS.Walk
import HandS.IsInst
import HandS.NoneIn
import HandS.Deep
import HandS.More
import HandS.GenBody
import HandS.GenYield
import HandS.GenCall
import HandS.GenList
import KE.KDictZip
import KE.GoesEnumKw
import PySem.Challenge.RW_sortstretches_k32_blocks_of_scripts
set_option maxHeartbeats 20000000
set_option Elab.async false
set_option linter.all false
set_option maxRecDepth 100000
namespace Xk
open PySem PySem.Spec PyProof.Rows L2

/-- a def's promise where no list is being written out around the call -/
structure FnG (P : Program) (w : World) (K : PySem.W.Frag) (mg : Str → Option Value) (B : Heap) (CX : CXT) (n : Nat) (g : Addr) (fd : FuncData) (ps : List Str) (sp : Sp) : Prop where
  cnt : ∀ vs H Q E, sp vs H Q E → vs.length = ps.length
  go : ∀ (A : Around) (ou : List Env) (t : Shared) (H : Hp) (ar : Args) (us : List Value) (vs : List V) (Q : VK) (E : XK),
    A.guards = some [] → Room n A → Env0 P w K mg B A ou t H → BindsTo t fd ar (ps.zip us) → Vals vs us → sp vs H Q E →
      codeAny (model P w) A (.call (.ref g) ar) (CR CX ou P w H t Q E) t

theorem FnG.of {P : Program} {w : World} {K : PySem.W.Frag} {mg : Str → Option Value} {B : Heap} {CX : CXT} {n : Nat} {g : Addr} {fd : FuncData} {ps : List Str} {sp : Sp}
    (F : FnOk P w K mg B CX n g fd ps sp) : FnG P w K mg B CX n g fd ps sp :=
  ⟨F.len, fun A ou t H ar us vs Q E _ room env bi rv hs => F.run A ou t H ar us vs Q E room env bi rv hs⟩

section
variable {X : Cx} {CX : CXT} {n : Nat} {g : Addr} {fd : FuncData} {ps ks : List Str} {sp : Sp} {dvs : List V} {ds : List Value} {E : XK} {x : Str} {p pos : Pos} {e : Expr} {es : List Expr} {kws : List Keyword} {t tk : TA}

theorem endG {pins : List (Addr × Obj)} {σ : L2.St} {H : Hp} {s s' : Shared} {Q : VK} {r : Result} (pas : Passes CX X E) (I : Inv X pins σ H s)
    (z : CR CX X.stack X.prog X.w H s Q E r s') :
    (match r with | .ok (.ret u) => EP X pins σ Q u s' | .ok _ => False | .error er => X.xe er s') := by
  match r, z with
  | .error er, z => exact pas pins σ H s er s' I z
  | .ok (.ret u), z => exact I.after z
  | .ok .next, z => exact z.elim
  | .ok .brk, z => exact z.elim
  | .ok .cont, z => exact z.elim

theorem goG {pins : List (Addr × Obj)} {σ : L2.St} {H : Hp} {s : Shared} {Q : VK} {us : List Value} {vs : List V} (F : FnG X.prog X.w X.K X.mg X.base CX n g fd ps sp)
    (hG : X.A.guards = some []) (room : Room n X.A) (bi : Binds X.K fd ps ds) (dv : Vals dvs ds) (pas : Passes CX X E) (I : Inv X pins σ H s) (rv : Vals vs us) (z : sp (vs ++ dvs) H Q E) :
    wpAny (model X.prog X.w) X.A (PySem.call (.ref g) us) (EP X pins σ Q) X.xe s := by
  have rv2 := rv.append dv
  have hlen : (us ++ ds).length = ps.length := rv2.length ▸ F.cnt _ _ _ _ z
  exact wpAny_call (codeAny_mono (F.go X.A X.stack s H ⟨us, []⟩ _ _ Q E hG room I.env0 (bi s us I.kIn hlen) rv2 z) fun r s' y => by
    have := endG pas I y
    revert this
    cases r with
    | error _ => exact id
    | ok fl => cases fl <;> exact id)

theorem pe_callG (F : FnG X.prog X.w X.K X.mg X.base CX n g fd ps sp) (hG : X.A.guards = some []) (room : Room n X.A) (gx : Gl X x) (at' : X.mg x = some (.ref g)) (kp : PySem.W.keepIn X.K (.ref g) = true)
    (bi : Binds X.K fd ps ds) (dv : Vals dvs ds) (pas : Passes CX X E) (ha : PA X (e :: es) t) (hdb : (x == ("__debug__" : Str)) = false := by decide)
    (he : starEach (e :: es) X.env = (false, eval e X.env) :: starEach es X.env := by rfl) (hpl : (backTo pos (starEach es X.env)).any (·.1) = false := by rfl) : PE X (.Call (.Name x p) (e :: es) [] pos) (tCall sp dvs E t) :=
  ⟨fun pins s σ H Q I z => wpAny_Call_Name_kw (ld_glob I gx at'
    (PySem.W.callWith_K (h₀ := X.base) I.ok.mod.kin kp (thn (ha.run pos pins s σ H _ I z) fun us s1 ⟨vs, H1, I1, r, q⟩ => ⟨I1.kIn, goG F hG room bi dv pas I1 r q⟩) he hpl) hdb)⟩

variable {ff : List Value → List Value → List Value} {fV : List V → List V → List V}
theorem goGK {pins : List (Addr × Obj)} {σ : L2.St} {H : Hp} {s : Shared} {Q : VK} {us ws : List Value} {vs zs : List V} (F : FnG X.prog X.w X.K X.mg X.base CX n g fd ps sp)
    (hG : X.A.guards = some []) (room : Room n X.A) (bi : KBinds X.K fd ps ks ff fV) (pas : Passes CX X E) (I : Inv X pins σ H s) (rv : Vals vs us) (rw' : Vals zs ws) (z : sp (fV vs zs) H Q E) :
    wpAny (model X.prog X.w) X.A (PySem.call (.ref g) us (ks.zip ws)) (EP X pins σ Q) X.xe s := by
  have rv2 := bi.rel rv rw'
  have hlen : (ff us ws).length = ps.length := rv2.length ▸ F.cnt _ _ _ _ z
  exact wpAny_call (codeAny_mono (F.go X.A X.stack s H ⟨us, ks.zip ws⟩ _ _ Q E hG room I.env0 (bi.to s us ws I.kIn hlen) rv2 z) fun r s' y => by
    have := endG pas I y
    revert this
    cases r with
    | error _ => exact id
    | ok fl => cases fl <;> exact id)

/-- f(e, .., k = v, ..) -/
theorem pe_callKG (F : FnG X.prog X.w X.K X.mg X.base CX n g fd ps sp) (hG : X.A.guards = some []) (room : Room n X.A) (gx : Gl X x) (at' : X.mg x = some (.ref g)) (kp : PySem.W.keepIn X.K (.ref g) = true)
    (bi : KBinds X.K fd ps ks ff fV) (pas : Passes CX X E) (ha : PA X (e :: es) t) (hkw : PK X kws tk) (hdb : (x == ("__debug__" : Str)) = false := by decide)
    (all' : (backToKw pos (keywordEach kws X.env)).all (·.1.isSome) = true := by rfl) (nms : (backToKw pos (keywordEach kws X.env)).filterMap (·.1) = ks := by rfl)
    (he : starEach (e :: es) X.env = (false, eval e X.env) :: starEach es X.env := by rfl)
    (hpl : ((backTo pos (starEach (e :: es) X.env)).any (·.1) || (backToKw pos (keywordEach kws X.env)).any (·.1.isNone)) = false := by rfl) :
    PE X (.Call (.Name x p) (e :: es) kws pos) (tCallK sp fV E t tk) := by
  subst nms
  exact ⟨fun pins s σ H Q I z => wpAny_Call_Name_kw (ld_glob I gx at'
    (PySem.W.callWith_KW (h₀ := X.base) I.ok.mod.kin kp all' (thn (ha.run pos pins s σ H _ I z) fun us s1 ⟨vs, H1, I1, r, q⟩ =>
      thn (hkw.run pos pins s1 σ H1 _ I1 q) fun ws s2 ⟨zs, H2, I2, rz, q2⟩ => ⟨I2.kIn, goGK F hG room bi pas I2 r rz q2⟩) hpl he) hdb)⟩
/-- f(k = v, ..) -/
theorem pe_callKG0 (F : FnG X.prog X.w X.K X.mg X.base CX n g fd ps sp) (hG : X.A.guards = some []) (room : Room n X.A) (gx : Gl X x) (at' : X.mg x = some (.ref g)) (kp : PySem.W.keepIn X.K (.ref g) = true)
    (bi : KBinds X.K fd ps ks ff fV) (pas : Passes CX X E) (hkw : PK X kws tk) (hdb : (x == ("__debug__" : Str)) = false := by decide)
    (all' : (backToKw pos (keywordEach kws X.env)).all (·.1.isSome) = true := by rfl) (nms : (backToKw pos (keywordEach kws X.env)).filterMap (·.1) = ks := by rfl)
    (hpl : ((backTo pos (starEach [] X.env)).any (·.1) || (backToKw pos (keywordEach kws X.env)).any (·.1.isNone)) = false := by rfl) :
    PE X (.Call (.Name x p) [] kws pos) (tCallK sp fV E tNil tk) := by
  subst nms
  exact ⟨fun pins s σ H Q I z => wpAny_Call_Name_kw (ld_glob I gx at'
    (PySem.W.callWith_KW0 (h₀ := X.base) I.ok.mod.kin kp all' (thn (hkw.run pos pins s σ H _ I z) fun ws s2 ⟨zs, H2, I2, rz, q2⟩ => ⟨I2.kIn, goGK F hG room bi pas I2 .nil rz q2⟩) hpl) hdb)⟩
end

/-- a def of the text by its body, the guards known -/
theorem fnG_of {P : Program} {w : World} {K : PySem.W.Frag} {mg : Str → Option Value} {B : Heap} {CX : CXT} {n : Nat} {g : Addr} {nm qual : Str} {pars : Arguments} {bd : List Stmt} {sc : Scope} {dV kV doc pm cdv ct oc : Value} {an od : Option Addr}
    {osl : Array (Option Value)} {N ps : List Str} {sp : Sp} (lk : K.lookup g = some ⟨oc, od, .func (PySem.W.fnOf nm qual pars bd sc dV kV doc pm an cdv ct), osl⟩) (hcd : PySem.W.codeIn K cdv qual = true) (S : FnScope N ps sc)
    (cnt : ∀ vs H Q E, sp vs H Q E → vs.length = ps.length)
    (body : ∀ (A : Around) (ou : List Env) (t : Shared) (H : Hp) (vs : List V) (Q : VK) (E : XK), A.guards = some [] → Room n (A.deeper (envOfC qual sc t.heap.objs.size g cdv)) → sp vs H Q E →
      ∃ r, PSs (cxOf CX P w K mg B N qual sc g cdv A ou t H E) bd r ∧ r { nx := fun _ H' => Q .non H', rt := Q } (L2.start N vs) H) :
    FnG P w K mg B CX (n + 1) g (PySem.W.fnOf nm qual pars bd sc dV kV doc pm an cdv ct) ps sp where
  cnt := cnt
  go A ou t H ar us vs Q E hG room env bi rv z := by
    have kin := env.mod.kin.keeps fun b o e => (env.bs b o e).1
    have lim := env.mod.nolimit.keeps fun b o e => (env.bs b o e).1
    have kinds : ∀ y ∈ ps.zip us, sc.names.lookup y.1 = some .local ∨ (sc.names.lookup y.1 = some .cell ∧ ((cellsFrom (t.heap.objs.size + 1) sc.names []).lookup y.1).isSome = true) := fun y hy =>
      (S.par y.1 (List.of_mem_zip (a := y.1) (b := y.2) hy).1).imp id fun q => ⟨q, PySem.W.cellsFrom_some _ _ _ (.inl q)⟩
    refine codeAny_call_function room.depth (kin _ _ lk) rfl S.co S.gen rfl (PySem.W.codeRec_of kin hcd) (bi _ _ _ _ (wpAny_newFunctionEnv_cells S.kind kinds fun env' he t1 x => ?_))
    subst he
    obtain ⟨r, hr, hq⟩ := body A ou t H vs Q E hG (room.deeper _) z
    refine ⟨lim.keeps x.toInCall.keep, codeAny_func (wpAny_mono (hr.run [] t1 (L2.start N vs) H _ (inv_start S room.hd env (cnt _ _ _ _ z) rv x) hq) (fun fl t' y => ?_) fun e t' y => y)⟩
    match fl, y with
    | .ret u, ⟨v, σ', H', J, ru, q⟩ => exact ⟨v, H', J.os, J.bare, J.base, J.hok, ru, q⟩
    | .next, ⟨σ', H', J, q⟩ => exact ⟨V.non, H', J.os, J.bare, J.base, J.hok, rfl, q⟩
    | .brk, ⟨_, _, _, q⟩ => exact q.elim
    | .cont, ⟨_, _, _, q⟩ => exact q.elim

/-- the law's call at the claim's caller, over an abstract heap that tracks the script at most -/
theorem lawG0 {P : Program} {w : World} {K : PySem.W.Frag} {mg mb : Str → Option Value} {CX : CXT} {n : Nat} {fa a : Addr} {fd : FuncData} {x : Str} {sp : Sp} {t : Shared} {vs : List Value} {H : Hp}
    (kin : K.In t.heap) (hm : t.heap.Ns mainGlobals mg) (hb : t.heap.Ns builtinsNs mb) (hbb : ∀ y : Str, y ≠ "__name__" → mb y = bootBuiltins y) (lim : t.heap.NoLimit) (gens : t.gens = #[])
    (ha : t.heap.get? a = some { cls := .type "list", data := .seq vs.toArray }) (room : Room n callerA)
    (F : ∀ B : Heap, K.In B → B.Ns mainGlobals mg → FnG P w K mg B CX n fa fd [x] sp) (bi : ∀ (s : Shared) (u : Value), BindsTo s fd ⟨[u], []⟩ [(x, u)])
    (z : sp [.ref a] H (fun v _ => v = .bl true) fun _ _ _ => False) (noX : ∀ H e s', CX [] H t (fun _ _ _ => False) e s' → False)
    (only : Only H) (hok : HOk P w H t.heap) (hA : ∀ b, H b ≠ none → b = a) (hK : H a ≠ none → K.lookup a = none) :
    codeAny (model P w) callerA (.call (.ref fa) ⟨[.ref a], []⟩) (fun r s' => r = .ok (.ret (.bool true)) ∧ OldK t.heap s'.heap ∧ s'.os = t.os ∧ AllBare s'.gens) t := by
  have free : ∀ {b : Addr}, b ≠ a → H b = none := fun {b} hne => Classical.byContradiction fun q => hne (hA b q)
  have low : ∀ {b : Addr} {o : Obj}, t.heap.get? b = some o → H b = none → (hidT t.heap H).get? b = some o := fun e q => hidT_get e q
  have dict : ∀ {b : Addr} {o : Obj} {es : Array DictEntry} {ep : Nat}, t.heap.get? b = some o → o.data = .dict es ep → H b = none := fun {b o es ep} e d => free fun q => by
    subst q
    rw [ha] at e
    cases e
    exact nomatch (show Data.seq vs.toArray _ = Data.dict es ep from d)
  have ns : ∀ {b : Addr} {m : Str → Option Value}, t.heap.Ns b m → (hidT t.heap H).Ns b m := fun ⟨o, es, ep, e, d, r⟩ => ⟨o, es, ep, low e (dict e d), d, r⟩
  have kb : K.In (hidT t.heap H) := fun b o e => low (kin b o e) (by
    by_cases q : b = a
    · subst q
      exact Classical.byContradiction fun y => by rw [hK y] at e; cases e
    · exact free q)
  obtain ⟨mc, l1, l2⟩ := lim
  have env : Env0 P w K mg (hidT t.heap H) callerA [] t H :=
    { frames := rfl, mod := ⟨kb, ns hm, ⟨mb, ns hb, hbb⟩, ⟨mc, ns l1, l2⟩⟩, bs := fun b o e => of_hidT e, bsz := Nat.le_of_eq (hidT_size _ _), funs := trivial,
      frf := fun b q => absurd (show b ∈ ([] : List Addr) from q) (by simp), hok := hok, bare := .of_eq gens }
  refine codeAny_mono ((F _ kb (ns hm)).go callerA [] t H ⟨[.ref a], []⟩ [.ref a] [.ref a] _ _ rfl room env (bi t (.ref a)) (.cons rfl .nil) z) fun r s' y => ?_
  match r, y with
  | .error e, y => exact (noX H e s' y).elim
  | .ok (.ret u), ⟨v, H', os, bare, un, hok', ru, q⟩ =>
    cases (show v = .bl true from q)
    cases (show u = Value.bool true from ru)
    refine ⟨rfl, OldK.of_keep fun b o e => ?_, os, bare⟩
    match hq : H b with
    | none => exact un.keep b o e hq (by intro q; exact absurd (show b ∈ ([] : List Addr) from q) (by simp)) (by simp)
    | some u =>
      rcases only b with q | ⟨ob, xs, q⟩
      · rw [hq] at q; cases q
      · obtain ⟨e1, _⟩ := hok b _ q
        obtain ⟨e2, _⟩ := hok' b _ (un.frzs b ob _ q)
        rw [e] at e1; cases e1
        exact e2

theorem lawG {P : Program} {w : World} {K : PySem.W.Frag} {mg mb : Str → Option Value} {CX : CXT} {n : Nat} {fa a : Addr} {fd : FuncData} {x : Str} {sp : Sp} {t : Shared} {vs : List Value} {ns : List Int}
    (kin : K.In t.heap) (hm : t.heap.Ns mainGlobals mg) (hb : t.heap.Ns builtinsNs mb) (hbb : ∀ y : Str, y ≠ "__name__" → mb y = bootBuiltins y) (lim : t.heap.NoLimit) (gens : t.gens = #[])
    (ha : t.heap.get? a = some { cls := .type "list", data := .seq vs.toArray }) (hi : IntsAre vs ns) (hl : ns.length ≤ sizeLine) (room : Room n callerA)
    (F : ∀ B : Heap, K.In B → B.Ns mainGlobals mg → FnG P w K mg B CX n fa fd [x] sp) (bi : ∀ (s : Shared) (u : Value), BindsTo s fd ⟨[u], []⟩ [(x, u)])
    (z : ∀ H : Hp, Only H → SqL K H a (ns.map V.int) → sp [.ref a] H (fun v _ => v = .bl true) fun _ _ _ => False) (noX : ∀ H e s', CX [] H t (fun _ _ _ => False) e s' → False) :
    codeAny (model P w) callerA (.call (.ref fa) ⟨[.ref a], []⟩) (fun r s' => r = .ok (.ret (.bool true)) ∧ OldK t.heap s'.heap ∧ s'.os = t.os ∧ AllBare s'.gens) t := by
  have rv := vals_ints hi
  match hk : K.lookup a with
  | some o =>
    have e := kin a o hk
    rw [ha] at e
    cases e
    have on : Only fun _ => none := fun _ => .inl rfl
    exact lawG0 kin hm hb hbb lim gens ha room F bi (z _ on (.inr ⟨_, vs.toArray, _, hk, rfl, rfl, rfl, by rw [List.size_toArray, hi.length]; exact hl, by simpa using rv⟩)) noX on
      (fun b u q => nomatch (show (none : Option HO) = some u from q)) (fun b q => absurd rfl q) fun q => absurd rfl q
  | none =>
    have at0 : ∀ {b : Addr}, b ≠ a → (if b = a then some (HO.frz { cls := .type "list", data := .seq vs.toArray } (.lst (ns.map V.int))) else none) = none := fun q => if_neg q
    have on : Only fun b => if b = a then some (HO.frz { cls := .type "list", data := .seq vs.toArray } (.lst (ns.map V.int))) else none := fun b => by
      by_cases q : b = a
      · exact .inr ⟨_, _, if_pos q⟩
      · exact .inl (if_neg q)
    refine lawG0 kin hm hb hbb lim gens ha room F bi (z _ on (.inl (.inr ⟨_, if_pos rfl⟩))) noX on (fun b u q => ?_) (fun b q => Classical.byContradiction fun y => q (if_neg y)) fun _ => hk
    by_cases y : b = a
    · subst y
      cases (if_pos rfl).symm.trans q
      exact ⟨ha, by rw [List.length_map]; exact hl, vs, _, rv, ha⟩
    · cases (at0 y).symm.trans q

/-- the goal that the head leaves, from the law's promise -/
theorem walkG {l : PySem.W.OpenLaw} {m n : Nat} {q : Program} {loose : List Str} {XP : (Str → Option Value) → Heap → Prop} {YP : World → Heap → Prop} {d : DefRec} {K : Params → PySem.W.Frag} {CX : CXT} {sp : PySem.W.Frag → Sp} {x : Str}
    (hn : l.most = some m) (hm : m ≤ sizeLine) (hdf : d.params.defaults = []) (room : Room n callerA) (hY : ∀ (w : World) (h : Heap), YP w h → (K w.params).In h)
    (F : ∀ (w : World) (mg : Str → Option Value) (fa : Addr) (h : Heap), (K w.params).In h → h.Ns mainGlobals mg → mg d.name = some (.ref fa) →
      ∃ fd : FuncData, (∀ (s : Shared) (u : Value), BindsTo s fd ⟨[u], []⟩ [(x, u)]) ∧
        ∀ B : Heap, (K w.params).In B → B.Ns mainGlobals mg → FnG l.prog w (K w.params) mg B CX n fa fd [x] (sp (K w.params)))
    (z : ∀ (K : PySem.W.Frag) (H : Hp) (a : Addr) (ns : List Int), ns.length ≤ m → Only H → SqL K H a (ns.map V.int) → sp K [.ref a] H (fun v _ => v = .bl true) fun _ _ _ => False)
    (noX : ∀ (H : Hp) (s : Shared) (e : Value) (s' : Shared), CX [] H s (fun _ _ _ => False) e s' → False) : PySem.W.WalkO q loose XP YP l.row.toRowW d [] (fun f vs => PySem.call f vs) :=
  Att.attach_call hn hdf fun w s0 s1 mg mb fa o pm cd doc a vs ns G Y ho hd hcd hmg hobj hints hlen hg =>
    have ⟨fd, hb, hF⟩ := F w mg fa _ (hY w _ Y) G.T.g hmg
    lawG (hY w _ Y) G.T.g G.T.b G.T.builtins G.T.nolimit hg hobj hints (Nat.le_trans hlen hm) room hF hb (fun H hO hS => z (K w.params) H a ns hlen hO hS) fun H e s' => noX H s1 e s'
end Xk

set_option Elab.async false
set_option linter.all false
set_option maxRecDepth 100000
namespace Xk
open PySem PySem.Spec PyProof.Rows L2

/-- ** with a whole exponent: base's bits times exponent within 2^27 -/
def CPowW (i j : Int) : Prop := 0 ≤ j ∧ (Builtin.Int.intBits i : Int) * j ≤ 2 ^ 27
section
variable {X : Cx}
theorem op_powW : OpR X (binaryOp .Pow) (rI CPowW fun i j => .int (i ^ j.toNat)) := opI fun _ _ _ _ _ _ _ hc q => pow_int hc.1 hc.2 q
end
theorem bits_le {i : Int} {n : Nat} (h : i.natAbs < 2 ^ n) : Builtin.Int.intBits i ≤ n := by
  unfold Builtin.Int.intBits
  split
  · omega
  · rename_i h0
    have h0' : i.natAbs ≠ 0 := by
      intro z
      apply h0
      simp [Int.natAbs_eq_zero.mp z]
    have := (Nat.log2_lt h0').mpr h
    omega
theorem powW {i : Int} {n : Nat} {j : Int} (h : i.natAbs < 2 ^ n) (h0 : 0 ≤ j) (hj : j ≤ 3) (hn : n ≤ 40000000) : CPowW i j := by
  refine ⟨h0, ?_⟩
  have h1 := bits_le h
  have : (Builtin.Int.intBits i : Int) * j ≤ 40000000 * 3 := by
    refine Int.mul_le_mul ?_ hj h0 (by omega)
    omega
  refine Int.le_trans this (by decide)

/-! ### xs[i] read for op= -/
section
variable {X : Cx}
theorem get_list : PGet X (rIxL X.K) := by
  intro pins s σ H o i ov iv Q I ro ri h
  obtain ⟨p, xs, k, z, rfl, rfl, hq, he, q⟩ := h
  cases ro
  obtain ⟨t, rfl⟩ := ri
  obtain ⟨its, r, pl, hz⟩ := I.list hq
  obtain ⟨j, h1, h2, h3, h4, h5⟩ := atI_get he
  obtain ⟨u, eu, ru⟩ := r.get h2
  have hl := r.length
  have hn := line63
  by_cases h0 : 0 ≤ k
  · have hj : k.toNat = j := by
      rw [seqIndex_of h0 h5] at h1
      exact Option.some.inj h1
    exact wpAny_getItem_list pl.isList h0 (by omega) (by rw [hj]; simpa using eu) ⟨z, H, I, ru, q⟩
  · have hj : (k + (its.toArray.size : Int)).toNat = j := by
      rw [seqIndex_neg (by omega) h4] at h1
      rw [List.size_toArray, ← hl]
      exact Option.some.inj h1
    exact wpAny_getItem_list_neg pl.isList (by omega) (by rw [List.size_toArray] <;> omega) (by omega) (by rw [hj]; simpa using eu) ⟨z, H, I, ru, q⟩
end

/-! ### xs[a:c] = ys -/
section
variable {X : Cx} {o : Expr} {lo hi : Option Expr} {to : TE} {tl th : TO} {p2 pos : Pos}
def gSlc (to : TE) (tl th : TO) : TG := fun v σ H Q => to σ H fun x H1 => tl σ H1 fun l H2 => th σ H2 fun u H3 =>
  ∃ (p b : Addr) (xs ys : List V) (a c : Int), x = .ref p ∧ v = .ref b ∧ l = some a ∧ u = some c ∧ H3 p = some (.lst xs) ∧ H3 b = some (.lst ys) ∧ p ≠ b ∧ 0 ≤ a ∧ a ≤ c ∧ c ≤ xs.length ∧ xs.length + ys.length ≤ sizeLine ∧
    Q σ (upd H3 p (.lst (xs.take a.toNat ++ ys ++ xs.drop c.toNat)))
theorem pg_slc (ho : PE X o to) (hl : PO X lo tl) (hu : PO X hi th) : PG X (.Subscript o (.Slice lo hi none p2) pos) (gSlc to tl th) := by
  refine ⟨fun pins s σ H v u Q I r z => ?_⟩
  rw [arm_assign_Subscript]
  refine wpAny_bind (wpAny_holding (thn (ho.run pins s σ H _ I z) fun ov s1 ⟨x, H1, I1, r1, q1⟩ => ?_))
  refine wpAny_bind (wpAny_holding (wpAny_Slice (thn (hl.run pins s1 σ H1 _ I1 q1) fun vl s2 ⟨l, H2, I2, pl, q2⟩ => thn (hu.run pins s2 σ H2 _ I2 q2) fun vu s3 ⟨c', H3, I3, pu, q3⟩ => ?_)))
  rw [evalPart_none]
  refine wpAny_pure ?_
  obtain ⟨p, b, xs, ys, a, c, rfl, rfl, rfl, rfl, hp, hb, hne, h0, hac, hc, hz, q⟩ := q3
  cases r1
  cases r
  cases pl with
  | int _ ta =>
    cases pu with
    | int _ tc =>
      have I4 : Inv X pins σ H3 { s3 with heap := s3.heap.push { cls := .type "slice", data := .fields #[.int a ta, .int c tc, .none] } } := I3.kept (t' := s3.toks) fun b ob q => Heap.get?_push_of_some _ q
      refine wpAny_bind (wpAny_standAt (wpAny_bind (wpAny_holding (set_slice I4 hp hb hne (Heap.IsSliceOf.new ..) ⟨ta, rfl⟩ ⟨tc, rfl⟩ h0 hac hc hz fun s' I5 => ?_))))
      exact wpAny_release ⟨σ, _, I5, q⟩
end

/-! ### repr of lists -/
section
variable {X : Cx}
mutual
theorem dp_nodict {K : PySem.W.Frag} {H : Hp} : ∀ (d : PyData) (v : V), Dp K H v d → d.hasDict = false
  | .none, _, _ => rfl
  | .bool _, _, _ => rfl
  | .int _, _, _ => rfl
  | .str _, _, _ => rfl
  | .list ds, _, h => by
    cases h with
    | lst _ a => exact dp_nodictAll ds _ a
  | .tuple ds, _, h => by
    cases h with
    | tup _ a => exact dp_nodictAll ds _ a
  | .dict _, _, h => by cases h
theorem dp_nodictAll {K : PySem.W.Frag} {H : Hp} : ∀ (ds : List PyData) (vs : List V), DpAll K H vs ds → PyData.hasDictAll ds = false
  | [], _, _ => rfl
  | d :: ds, _, h => by
    cases h with
    | cons a b =>
      show (d.hasDict || PyData.hasDictAll ds) = false
      rw [dp_nodict d _ a, dp_nodictAll ds _ b]
      rfl
end
def rReprD (K : PySem.W.Frag) : List V → Hp → VK → Prop := fun xs H Q => ∃ a d, xs = [.ref a] ∧ Dp K H (.ref a) d ∧ d.showable = true ∧ d.depth ≤ 60 ∧ d.shown.length ≤ sizeLine ∧ Q (.str d.shown) H
theorem call_reprD (hG : X.A.guards = some []) (hu : X.A.units + 64 < cLine) : CallR X (.builtin "repr") (rReprD X.K) := by
  intro pins s σ H xs us Q I r h
  obtain ⟨a, d, rfl, hd, hs, hdp, hz, q⟩ := h
  obtain ⟨u, rfl, rfl⟩ := vals1 r
  obtain ⟨as, rd⟩ := Dp.reads I d _ _ hd rfl
  exact repr_of_reads' rd hs (fun z => by rw [dp_nodict d _ hd] at z; cases z) hG (by omega) (fun b o e => e) (fun h' u tk k => ⟨.str d.shown, H, I.kept k, ⟨u, rfl⟩, q⟩) hz
end
end Xk

set_option Elab.async false
set_option linter.all false
set_option maxRecDepth 100000
namespace Xk
open PySem PySem.Spec PyProof.Rows L2
/-! ### list(range(a, b, c)) -/
def rg3V (i c : Int) (n : Nat) : List V := (List.range n).map fun k => V.int (i + (k : Nat) * c)
theorem rg3V_length (i c : Int) (n : Nat) : (rg3V i c n).length = n := by unfold rg3V; simp
theorem vals_rg3 {i c : Int} {n : Nat} {acc : Array Value} (h : ItemsOf (fun k v => ∃ t, v = .int (i + k * c) t) acc n) : Vals (rg3V i c n) acc.toList := by
  have e : acc.toList.length = n := by rw [Array.length_toList]; exact h.1
  unfold rg3V
  rw [← e]
  refine vals_of_get _ (fun k => V.int (i + (k : Nat) * c)) fun j u hu => ?_
  exact h.2 j u (by simpa using hu)
def tLst3 (ta : TA) : TE := fun σ H Q => ta σ H fun vs H1 => ∃ (i j c : Int) (n : Nat), vs = [.int i, .int j, .int c] ∧ RgC i j c n ∧ n ≤ 2 ^ 24 ∧ ∀ q, H1 q = none → Q (.ref q) (upd H1 q (.lst (rg3V i c n)))
section
variable {X : Cx} {a b c : Expr} {ta : TA} {p pos p1 pos1 : Pos}
theorem pe_listRg3 (calm : X.calm = true) (hl : Gl X "list") (ml : X.mg "list" = none) (hg : Gl X "range") (hm : X.mg "range" = none) (ha : PA X [a, b, c] ta)
    (hs : starEach [a, b, c] X.env = (false, eval a X.env) :: starEach [b, c] X.env := by rfl) (hpl : (backTo pos (starEach [b, c] X.env)).any (·.1) = false := by rfl)
    (na : starEach [Expr.Call (.Name "range" p) [a, b, c] [] pos] X.env = (false, eval (Expr.Call (.Name "range" p) [a, b, c] [] pos) X.env) :: starEach [] X.env := by rfl) :
    PE X (.Call (.Name "list" p1) [.Call (.Name "range" p) [a, b, c] [] pos] [] pos1) (tLst3 ta) := by
  refine ⟨fun pins s σ H Q I z => ?_⟩
  refine Call_ (ld_blt I hl ml boot_list (PyProof.Rows.callWith_type1 (args_cons (Call_ (ld_blt I hg hm boot_range (PyProof.Rows.callWith_type1 (thn (ha.run pos pins s σ H _ I z) fun us s1 ⟨vs, H1, I1, r1, q1⟩ => ?_) hs hpl))) na) na))
  obtain ⟨i, j, k, n, e, ⟨c0, c1, c2, c3⟩, hn, q⟩ := q1
  subst e
  cases r1 with
  | cons r rr =>
    cases rr with
    | cons r' rr =>
      cases rr with
      | cons r'' rr =>
        cases rr
        obtain ⟨t, rfl⟩ := r
        obtain ⟨t', rfl⟩ := r'
        obtain ⟨t'', rfl⟩ := r''
        refine call_range_3 c0 (args_nil ?_) (.inl (PyProof.noPylong_small c1))
        have I2 : Inv X pins σ H1 { s1 with heap := s1.heap.push { cls := .type "range", data := .fields #[.int i t, .int j t', .int k t''] }, toks := s1.toks } := I1.kept fun b o e => Heap.get?_push_of_some _ e
        refine call_list_range (n := n) (I2.ok.hd calm) (IsRange.new ..) c2 c3 hn fun h' tk acc c' hk e' hi => ?_
        refine ⟨.ref _, upd H1 _ (.lst (rg3V i k n)), I2.laid hk (Nat.le_refl _) (show ObjOk X.prog X.w _ _ _ (.lst (rg3V i k n)) from ⟨?_, acc.toList, c', vals_rg3 hi, ?_⟩), rfl, q _ (I2.hok.fresh (Nat.le_refl _))⟩
        · rw [rg3V_length]; exact hn
        · rw [Array.toArray_toList]; exact e'
end
end Xk

set_option Elab.async false
set_option linter.all false
set_option maxRecDepth 100000
namespace Xk
open PySem PySem.Spec PyProof.Rows L2

section
variable {P : Program} {w : World} {K : PySem.W.Frag} {mg : Str → Option Value} {base : Heap}
/-- a def by its body, the guards known, nothing raised -/
theorem okG {x qual : Str} {st : Stmt} {f : Addr} {fd : FuncData} {N ps : List Str} {k : Nat} {sp : Sp} (F : Fun K x qual st f fd) (S : FnScope N ps (defScope st)) (cnt : ∀ vs H Q E, sp vs H Q E → vs.length = ps.length)
    (body : ∀ (cdv : Value) (A : Around) (ou : List Env) (t : Shared) (H : Hp) (vs : List V) (Q : VK) (E : XK), A.guards = some [] → Room k (A.deeper (envOfC qual (defScope st) t.heap.objs.size f cdv)) → sp vs H Q E →
      ∃ r, PSs (cxOf CX0 P w K mg base N qual (defScope st) f cdv A ou t H E).nox (defBody st) r ∧ r ⟨fun _ H' => Q .non H', Q, fun _ _ => False, fun _ _ => False⟩ (L2.start N vs) H) : FnG P w K mg base CX0 (k + 1) f fd ps sp := by
  obtain ⟨oc, od, kV, doc, pm, an, cdv, ct, osl, rfl, lk, hcd⟩ := F.ex
  refine fnG_of lk hcd S cnt fun A ou t H vs Q E hG hr hsp => ?_
  obtain ⟨r, h, q⟩ := body cdv A ou t H vs Q E hG hr hsp
  exact ⟨r, h.nox, q⟩
end

/-! ### words -/
section
variable {X : Cx} {x : Str} {pos pos' : Pos} {e : Expr} {te : TE} {op : Operator} {ti : TIp}
theorem sset (i : Nat) (nd : X.N.Nodup) (he : PE X e te) (hi : X.N[i]? = some x := by rfl) (hx : Loc X.env.scope x := by first | exact Or.inl rfl | exact Or.inr rfl)
    (hs : swapsWith e (some (.Name x pos')) pos.line X.env = pure false := by rfl) (hf : X.fn x = true ∨ X.env.scope.names.lookup x = some .local := by first | exact Or.inl rfl | exact Or.inr rfl) : PS X (.Assign [.Name x pos'] e pos) (tAsg te (gName i)) := ps_set nd hi hx he hs hf
theorem gset (i : Nat) (nd : X.N.Nodup) (hi : X.N[i]? = some x := by rfl) (hx : Loc X.env.scope x := by first | exact Or.inl rfl | exact Or.inr rfl) (hf : X.fn x = true ∨ X.env.scope.names.lookup x = some .local := by first | exact Or.inl rfl | exact Or.inr rfl) : PG X (.Name x pos) (gName i) := pg_name nd hi hx hf
theorem saug (i : Nat) (nd : X.N.Nodup) (he : PE X e te) (ho : PIp X op ti) (hi : X.N[i]? = some x := by rfl) (hx : Loc X.env.scope x := by first | exact Or.inl rfl | exact Or.inr rfl) (hf : X.fn x = true ∨ X.env.scope.names.lookup x = some .local := by first | exact Or.inl rfl | exact Or.inr rfl) : PS X (.AugAssign (.Name x pos') op e pos) (tAug i te ti) := ps_aug nd hi hx he ho hf
end
/-! ### the rules that speak of the written part, the part given -/
section
variable {X : Cx} (K : PySem.W.Frag) {e a b l o : Expr} {es ts : List Expr} {te ta tb tl to : TE} {t : TA} {g : TGs} {pos cpos apos p p1 p2 p3 tpos : Pos} {tg : Expr} {T id : String} {name : Str}
theorem ix_listK (hK : X.K = K := by rfl) : IxR X (rIxL K) := hK ▸ ix_list
theorem ix_tupK (hK : X.K = K := by rfl) : IxR X (rIxT K) := hK ▸ ix_tup
theorem sl_listK (hK : X.K = K := by rfl) : SlR X (rSlL K) := hK ▸ sl_list
theorem sl_tupK (hK : X.K = K := by rfl) : SlR X (rSlT K) := hK ▸ sl_tup
def rLen (K : PySem.W.Frag) : List V → Hp → VK → Prop := fun xs H Q => ∃ p ys, xs = [.ref p] ∧ (SqL K H p ys ∨ SqT K H p ys) ∧ Q (.int ys.length) H
theorem lenK (hK : X.K = K := by rfl) : CallR X (.builtin "len") (rLen K) := hK ▸ call_len_seq
def rListOf (K : PySem.W.Frag) : List V → Hp → VK → Prop := fun xs H Q => ∃ p ys, xs = [.ref p] ∧ (SqL K H p ys ∨ SqT K H p ys) ∧ ∀ l, H l = none → Q (.ref l) (upd H l (.lst ys))
theorem listK (hK : X.K = K := by rfl) : CallR X (.type "list") (rListOf K) := hK ▸ call_list_of
def rTupOf (K : PySem.W.Frag) : List V → Hp → VK → Prop := fun xs H Q => ∃ p ys, xs = [.ref p] ∧ ((SqL K H p ys ∧ ∀ l, H l = none → Q (.ref l) (upd H l (.tup ys))) ∨ (SqT K H p ys ∧ Q (.ref p) H))
theorem tupleK (hK : X.K = K := by rfl) : CallR X (.type "tuple") (rTupOf K) := hK ▸ call_tuple_of
theorem sumK (hc : X.calm = true) (hK : X.K = K := by rfl) : CallR X (.builtin "sum") (rSum K) := hK ▸ cr_sum hc
theorem minK (hc : X.calm = true) (hK : X.K = K := by rfl) : CallR X (.builtin "min") (rMin K) := hK ▸ cr_min hc
theorem maxK (hc : X.calm = true) (hK : X.K = K := by rfl) : CallR X (.builtin "max") (rMax K) := hK ▸ cr_max hc
theorem allK (hc : X.calm = true) (hK : X.K = K := by rfl) : CallR X (.builtin "all") (rAll K) := hK ▸ cr_all hc
theorem anyK (hc : X.calm = true) (hK : X.K = K := by rfl) : CallR X (.builtin "any") (rAny K) := hK ▸ cr_any hc
theorem sortedK (hK : X.K = K := by rfl) : CallR X (.builtin "sorted") (rSortedI K) := hK ▸ cr_sortedI
theorem sortedRK (hK : X.K = K := by rfl) : CallRK X (.builtin "sorted") [Str.ofString "reverse"] (rSortedKw K true [.bl true]) := hK ▸ cr_sortedRev
theorem reprK (hG : X.A.guards = some []) (hu : X.A.units + 64 < cLine) (hK : X.K = K := by rfl) : CallR X (.builtin "repr") (rReprD K) := hK ▸ call_reprD hG hu
theorem eqDK (hu : X.A.units + 64 < cLine) (hK : X.K = K := by rfl) : OpR X (compareOp .Eq) (rEqD K) := hK ▸ op_eqD hu
theorem neDK (hu : X.A.units + 64 < cLine) (hK : X.K = K := by rfl) : OpR X (compareOp .NotEq) (rNeD K) := hK ▸ op_neD hu
theorem inK (hK : X.K = K := by rfl) : OpR X (compareOp .In) (rIn K false) := hK ▸ op_in_seq
theorem notInK (hK : X.K = K := by rfl) : OpR X (compareOp .NotIn) (rIn K true) := hK ▸ op_notIn_seq
theorem lcountK (hK : X.K = K := by rfl) : MtR X "list.count" (rCntI K) := hK ▸ mt_lcount
theorem lindexK (hK : X.K = K := by rfl) : MtR X "list.index" (rIndex K) := hK ▸ mt_index
theorem getK (hK : X.K = K := by rfl) : PGet X (rIxL K) := hK ▸ get_list
theorem pi_listK (h : PE X l tl) (hK : X.K = K := by rfl) : PI X tg l (iList K tl) := hK ▸ pi_list h
theorem pi_tupK (h : PE X l tl) (hK : X.K = K := by rfl) : PI X tg l (iTup K tl) := hK ▸ pi_tup h
theorem pi_enumK {elts : List Expr} {kk : Nat} (hg : Gl X "enumerate") (hm : X.mg "enumerate" = none) (ha : PA X [e] t) (hs : starEach [e] X.env = [(false, eval e X.env)] := by rfl) (hK : X.K = K := by rfl) :
    PI X (.Tuple elts kk tpos) (.Call (.Name "enumerate" p) [e] [] pos) (iEnum K t) := hK ▸ pi_enum hg hm ha hs
theorem pi_reversedK (hg : Gl X "reversed") (hm : X.mg "reversed" = none) (ha : PA X [e] t) (hs : starEach [e] X.env = [(false, eval e X.env)] := by rfl) (hK : X.K = K := by rfl) : PI X tg (.Call (.Name "reversed" p) [e] [] pos) (iRev K t) := hK ▸ pi_reversed hg hm ha hs
theorem pe_revLK {k : Nat} (he : PE X e te) (hK : X.K = K := by rfl) : PE X (.Subscript e (.Slice none none (some (.UnaryOp .USub (.Constant (.int 1) k p1) p2)) p3) pos) (tRevL K te) := hK ▸ pe_revL he
theorem pg_tupK {k : Nat} (n : Nat) (hc : X.calm = true) (h : PGs X es g) (hn : (assignEach es X.env).length = n := by rfl) (hst : (assignEach es X.env).findIdx? (·.1) = none := by rfl) (hK : X.K = K := by rfl) : PG X (.Tuple es k pos) (gTup K n g) := hK ▸ pg_tup hc h hn hst
theorem pi_zipK {e2 : Expr} {elts : List Expr} {kk : Nat} (hg : Gl X "zip") (hm : X.mg "zip" = none) (ha : PA X [e, e2] t)
    (hs : starEach [e, e2] X.env = (false, eval e X.env) :: starEach [e2] X.env := by rfl) (hpl : (backTo pos (starEach [e2] X.env)).any (·.1) = false := by rfl) (hK : X.K = K := by rfl) :
    PI X (.Tuple elts kk tpos) (.Call (.Name "zip" p) [e, e2] [] pos) (iZip K t) := hK ▸ pi_zip hg hm ha hs hpl
theorem pe_bmK {r : V → List V → Hp → VK → Prop} (pa : PlainAttrs T) (slot : Slot T name id) (hty : typeOf (.builtin id) = pure (.type "method_descriptor")) (hm : MtR X id r) (ho : PE X o to) (ha : PA X (e :: es) t)
    (hbase : attributeBase o name X.env (eval o X.env) = eval o X.env := by rfl)
    (hfew : ((backTo cpos (starEach (e :: es) X.env)).all (fun x => !x.1) && (backToKw cpos (keywordEach [] X.env)).all (fun x => x.1.isSome) && decide ((e :: es).length + ([] : List Keyword).length + (if ([] : List Keyword).isEmpty then 0 else 1) < 30)) = true := by rfl)
    (hline : (apos.endLine == cpos.line) = true := by rfl) (hs : starEach (e :: es) X.env = (false, eval e X.env) :: starEach es X.env := by rfl) (hplain : (backTo cpos (starEach es X.env)).any (·.1) = false := by rfl) (hK : X.K = K := by rfl) :
    PE X (.Call (.Attribute o name apos) (e :: es) [] cpos) (tBM K T r to t) := hK ▸ pe_bm pa slot hty hm ho ha hbase hfew hline hs hplain
theorem pe_bm0K {r : V → List V → Hp → VK → Prop} (pa : PlainAttrs T) (slot : Slot T name id) (hty : typeOf (.builtin id) = pure (.type "method_descriptor")) (hm : MtR X id r) (ho : PE X o to)
    (hbase : attributeBase o name X.env (eval o X.env) = eval o X.env := by rfl) (hline : (apos.endLine == cpos.line) = true := by rfl) (hK : X.K = K := by rfl) : PE X (.Call (.Attribute o name apos) [] [] cpos) (tBM0 K T r to) := hK ▸ pe_bm0 pa slot hty hm ho hbase hline
def tTruth (K : PySem.W.Frag) (ta : TE) : TT := fun σ H Q => ta σ H fun x H' => ∃ k, TruV K x H' k ∧ Q k H'
theorem pt_truthK (ha : PE X a ta) (he : ∀ whole, isTrue a X.env whole = (do let v ← whole; standAt a.pos; holding [v] (truthy v)) := by intro _; rfl) (hK : X.K = K := by rfl) : PT X a (tTruth K ta) := hK ▸ pt_truth ha he
end
end Xk

set_option Elab.async false
set_option linter.all false
set_option maxRecDepth 100000
namespace Xk
open PySem PySem.Spec PyProof.Rows L2

section
variable {K : PySem.W.Frag} {σ : L2.St} {H : Hp} {Q : VK} {R : List V → Hp → Prop} {ta tb te tc tv : TE} {tA : TA} {t u : TT} {v x y : V} {i j : Int} {Qb : Bool → Hp → Prop}
  {nx bk ct : L2.St → Hp → Prop} {rt : VK} {s1 s2 : TS} {g g1 : TG} {gs : TGs}
/-! ### expressions -/
theorem r_var {n : Nat} (h : σ[n]? = some (some v)) (q : Q v H) : tVar n σ H Q := ⟨v, h, q⟩
theorem r_c (q : Q v H) : tC v σ H Q := q
theorem r_op {r : R2} (h : ta σ H fun x H1 => tb σ H1 fun y H2 => r x y H2 Q) : tOp r ta tb σ H Q := h
theorem r_un {r : V → Hp → VK → Prop} (h : ta σ H fun x H1 => r x H1 Q) : tUn r ta σ H Q := h
theorem r_I0 {f : Int → Int → V} (q : Q (f i j) H) : rI0 f (.int i) (.int j) H Q := ⟨i, j, rfl, rfl, q⟩
theorem r_I {C : Int → Int → Prop} {f : Int → Int → V} (hc : C i j) (q : Q (f i j) H) : rI C f (.int i) (.int j) H Q := ⟨i, j, rfl, rfl, hc, q⟩
theorem r_U {f : Int → V} (q : Q (f i) H) : rU f (.int i) H Q := ⟨i, rfl, q⟩
theorem r_ixL {p : Addr} {xs : List V} (h : SqL K H p xs) (ha : atI xs i = some v) (q : Q v H) : rIxL K (.ref p) (.int i) H Q := ⟨p, xs, i, v, rfl, rfl, h, ha, q⟩
theorem r_ixT {p : Addr} {xs : List V} (h : SqT K H p xs) (ha : atI xs i = some v) (q : Q v H) : rIxT K (.ref p) (.int i) H Q := ⟨p, xs, i, v, rfl, rfl, h, ha, q⟩
theorem r_nil (q : R [] H) : tNil σ H R := q
theorem r_cons (h : ta σ H fun x H1 => tA σ H1 fun xs H2 => R (x :: xs) H2) : tCons ta tA σ H R := h
theorem r_lst (h : tA σ H fun xs H1 => xs.length ≤ sizeLine ∧ ∀ p, H1 p = none → Q (.ref p) (upd H1 p (.lst xs))) : tLst tA σ H Q := h
theorem r_tup (h : tA σ H fun xs H1 => xs.length ≤ sizeLine ∧ ∀ p, H1 p = none → Q (.ref p) (upd H1 p (.tup xs))) : tTup tA σ H Q := h
theorem r_call {sp : Sp} {dvs : List V} {E : XK} (h : tA σ H fun vs H1 => sp (vs ++ dvs) H1 Q E) : tCall sp dvs E tA σ H Q := h
theorem r_callK {sp : Sp} {gV : List V → List V → List V} {E : XK} {tk : TA} (h : tA σ H fun vs H1 => tk σ H1 fun zs H2 => sp (gV vs zs) H2 Q E) : tCallK sp gV E tA tk σ H Q := h
theorem r_cb {r : List V → Hp → VK → Prop} (h : tA σ H fun vs H1 => r vs H1 Q) : tCB r tA σ H Q := h
theorem r_ckw {r : List V → List V → Hp → VK → Prop} {tk : TA} (h : tA σ H fun vs H1 => tk σ H1 fun zs H2 => r vs zs H2 Q) : tCKw r tA tk σ H Q := h
theorem r_sl {r : V → Option Int → Option Int → Hp → VK → Prop} {tl th : TO} (h : te σ H fun x H1 => tl σ H1 fun l H2 => th σ H2 fun u H3 => r x l u H3 Q) : tSl r te tl th σ H Q := h
theorem r_part {Qo : Option Int → Hp → Prop} (h : te σ H fun x H1 => ∃ i, x = .int i ∧ Qo (some i) H1) : tPart te σ H Qo := h
theorem r_nopart {Qo : Option Int → Hp → Prop} (h : Qo none H) : tNoPart σ H Qo := h
theorem r_exi {Qo : Int → Prop} (h : Qo i) : ∃ j, V.int i = .int j ∧ Qo j := ⟨i, rfl, h⟩
theorem r_exb {b : Bool} {Qo : Bool → Prop} (h : Qo b) : ∃ j, V.bl b = .bl j ∧ Qo j := ⟨b, rfl, h⟩
theorem r_slL {p : Addr} {xs : List V} {lo hi : Option Int} (h : SqL K H p xs) (q : ∀ n, H n = none → Q (.ref n) (upd H n (.lst (cutV xs lo hi)))) : rSlL K (.ref p) lo hi H Q := ⟨p, xs, rfl, h, q⟩
theorem r_bm {T : String} {r : V → List V → Hp → VK → Prop} (h : te σ H fun x H1 => tyV K T x H1 ∧ tA σ H1 fun xs H2 => r x xs H2 Q) : tBM K T r te tA σ H Q := h
theorem r_bm0 {T : String} {r : V → List V → Hp → VK → Prop} (h : te σ H fun x H1 => tyV K T x H1 ∧ r x [] H1 Q) : tBM0 K T r te σ H Q := h
theorem ty_list {p : Addr} {xs : List V} (h : SqL K H p xs) : tyV K "list" (.ref p) H := .inl ⟨rfl, xs, h⟩
theorem r_append {p : Addr} {xs : List V} {y : V} (h : H p = some (.lst xs)) (hz : xs.length < sizeLine) (q : Q .non (upd H p (.lst (xs ++ [y])))) : rAppend (.ref p) [y] H Q := ⟨p, xs, y, rfl, rfl, h, hz, q⟩
theorem r_if {tif : TT} (h : tif σ H fun c H1 => if c = true then ta σ H1 Q else tb σ H1 Q) : tIf tif ta tb σ H Q := h
theorem r_andV (h : ta σ H fun x H1 => ∃ c, x = .bl c ∧ if c = true then tb σ H1 Q else Q (.bl false) H1) : tAndV ta tb σ H Q := h
theorem r_orV (h : ta σ H fun x H1 => ∃ c, x = .bl c ∧ if c = true then Q (.bl true) H1 else tb σ H1 Q) : tOrV ta tb σ H Q := h
theorem r_notV (h : ta σ H fun x H1 => ∃ c, x = .bl c ∧ Q (.bl (!c)) H1) : tNotV ta σ H Q := h
theorem r_eqI (q : Q (.bl (decide (i = j))) H) : rEq (.int i) (.int j) H Q := by
  refine ⟨rfl, ?_⟩
  have : decide (V.int i = V.int j) = decide (i = j) := by simp
  rw [this]
  exact q
theorem r_neI (q : Q (.bl (!decide (i = j))) H) : rNe (.int i) (.int j) H Q := by
  refine ⟨rfl, ?_⟩
  have : decide (V.int i = V.int j) = decide (i = j) := by simp
  rw [this]
  exact q
theorem r_eqS {a b : Str} (q : Q (.bl (decide (a = b))) H) : rEq (.str a) (.str b) H Q := by
  refine ⟨rfl, ?_⟩
  have : decide (V.str a = V.str b) = decide (a = b) := by simp
  rw [this]
  exact q
theorem r_neS {a b : Str} (q : Q (.bl (!decide (a = b))) H) : rNe (.str a) (.str b) H Q := by
  refine ⟨rfl, ?_⟩
  have : decide (V.str a = V.str b) = decide (a = b) := by simp
  rw [this]
  exact q
theorem r_len {p : Addr} {xs : List V} (h : SqL K H p xs) (q : Q (.int xs.length) H) : Xk.rLen K [.ref p] H Q := ⟨p, xs, rfl, .inl h, q⟩
theorem r_listOf {p : Addr} {xs : List V} (h : SqL K H p xs) (q : ∀ l, H l = none → Q (.ref l) (upd H l (.lst xs))) : rListOf K [.ref p] H Q := ⟨p, xs, rfl, .inl h, q⟩
theorem r_sum {p : Addr} {ns : List Int} (h : SqL K H p (ns.map V.int)) (q : Q (.int ns.sum) H) : rSum K [.ref p] H Q := ⟨p, ns, rfl, h, q⟩
theorem r_notT {A B : Prop} (h : B) : if (!true) = true then A else B := by simpa using h
theorem r_notF {A B : Prop} (h : A) : if (!false) = true then A else B := by simpa using h
/-! ### tests -/
theorem r_test (h : te σ H fun x H' => ∃ k, x = .bl k ∧ Qb k H') : tTest te σ H Qb := h
theorem r_tB (h : te σ H fun x H' => ∃ k, x = .bl k ∧ Qb k H') : tB te σ H Qb := h
theorem r_tand (h : t σ H fun c H1 => if c = true then u σ H1 Qb else Qb false H1) : tAnd t u σ H Qb := h
theorem r_tor (h : t σ H fun c H1 => if c = true then Qb true H1 else u σ H1 Qb) : tOr t u σ H Qb := h
theorem r_tnot (h : t σ H fun c H1 => Qb (!c) H1) : tNot t σ H Qb := h
theorem r_yes (h : Qb true H) : tYes σ H Qb := h
theorem r_dec {p : Prop} [Decidable p] {A B : Prop} (h1 : p → A) (h2 : ¬p → B) : if decide p = true then A else B := by
  by_cases h : p
  · rw [decide_eq_true h]; exact h1 h
  · rw [decide_eq_false h]; exact h2 h
theorem r_ndec {p : Prop} [Decidable p] {A B : Prop} (h1 : ¬p → A) (h2 : p → B) : if (!decide p) = true then A else B := by
  by_cases h : p
  · rw [decide_eq_true h]; exact h2 h
  · rw [decide_eq_false h]; exact h1 h
theorem r_itT {A B : Prop} (h : A) : if true = true then A else B := by rw [if_pos rfl]; exact h
theorem r_itF {A B : Prop} (h : B) : if false = true then A else B := by rw [if_neg Bool.false_ne_true]; exact h
/-! ### statements -/
theorem r_seq (h : s1 ⟨s2 ⟨nx, rt, bk, ct⟩, rt, bk, ct⟩ σ H) : tSeq s1 s2 ⟨nx, rt, bk, ct⟩ σ H := h
theorem r_cut {u : TS} (Mid : L2.St → Hp → Prop) (h : s1 ⟨Mid, rt, bk, ct⟩ σ H) (g : ∀ σ' H', Mid σ' H' → u ⟨nx, rt, bk, ct⟩ σ' H') : C8.tCut s1 u ⟨nx, rt, bk, ct⟩ σ H := ⟨Mid, h, g⟩
theorem r_next (h : nx σ H) : tNext ⟨nx, rt, bk, ct⟩ σ H := h
theorem r_asg (h : te σ H fun x H1 => g x σ H1 nx) : tAsg te g ⟨nx, rt, bk, ct⟩ σ H := h
theorem r_ret (h : te σ H rt) : tRet te ⟨nx, rt, bk, ct⟩ σ H := h
theorem r_drop (h : te σ H fun _ H1 => nx σ H1) : tDrop te ⟨nx, rt, bk, ct⟩ σ H := h
theorem r_ifS (h : t σ H fun b H1 => if b = true then s1 ⟨nx, rt, bk, ct⟩ σ H1 else s2 ⟨nx, rt, bk, ct⟩ σ H1) : tIfS t s1 s2 ⟨nx, rt, bk, ct⟩ σ H := h
theorem r_par {a b : Nat} (h : tA σ H fun vs H1 => ∃ v w, vs = [v, w] ∧ nx ((σ.set a (some v)).set b (some w)) H1) : tPar a b tA ⟨nx, rt, bk, ct⟩ σ H := h
theorem r_ex2 {f : V → V → Prop} (h : f x y) : ∃ v w, [x, y] = [v, w] ∧ f v w := ⟨x, y, rfl, h⟩
theorem r_brk (h : bk σ H) : tBreak ⟨nx, rt, bk, ct⟩ σ H := h
theorem r_cont (h : ct σ H) : tCont ⟨nx, rt, bk, ct⟩ σ H := h
theorem r_aug {n : Nat} {ti : TIp} (h : σ[n]? = some (some x)) (q : te σ H fun y H1 => ti x y H1 fun z H2 => nx (σ.set n (some z)) H2) : tAug n te ti ⟨nx, rt, bk, ct⟩ σ H := ⟨x, h, q⟩
theorem r_ipI {f : Int → Int → Int} (q : Q (.int (f i j)) H) : ipI f (.int i) (.int j) H Q := ⟨i, j, rfl, rfl, q⟩
theorem r_for {wi : TI} (h : wi σ H fun J H1 => ∃ W : Nat → Nat → L2.St → Hp → Prop, (∃ m, W 0 m σ H1) ∧ ∀ i m σ H, W i m σ H → (J.stop i H ∧ nx σ H) ∨ (J.go i H ∧ ∃ N : L2.St → Hp → Prop, (∀ σ' H', N σ' H' → ∃ m', m' < m ∧ W (i + 1) m' σ' H') ∧
    ∀ x H', J.yld i H x H' → g x σ H' fun σ2 H2 => s1 ⟨N, rt, nx, N⟩ σ2 H2)) : tFor wi g s1 ⟨nx, rt, bk, ct⟩ σ H := h
theorem r_augS {tget : V → V → Hp → VK → Prop} {ti : TIp} {ts : TSet} (h : ta σ H fun o H1 => tb σ H1 fun i H2 => tget o i H2 fun x H3 => te σ H3 fun y H4 => ti x y H4 fun z H5 => ts o i z H5 fun H6 => nx σ H6) : tAugS ta tb te tget ti ts ⟨nx, rt, bk, ct⟩ σ H := h
/-! ### targets -/
variable {Qs : L2.St → Hp → Prop}
theorem r_name {n : Nat} (q : Qs (σ.set n (some v)) H) : gName n v σ H Qs := q
theorem r_gtup {n : Nat} {p : Addr} {xs : List V} (h : SqT K H p xs) (hl : xs.length = n) (q : gs xs σ H Qs) : gTup K n gs (.ref p) σ H Qs := ⟨p, xs, rfl, h, hl, q⟩
theorem r_gcons {vs : List V} (q : g v σ H fun σ' H' => gs vs σ' H' Qs) : gCons g gs (v :: vs) σ H Qs := ⟨v, vs, rfl, q⟩
theorem r_gnil (q : Qs σ H) : gNil [] σ H Qs := ⟨rfl, q⟩
theorem r_gsub {ts : TSet} (h : te σ H fun o H1 => tv σ H1 fun i H2 => ts o i v H2 fun H3 => Qs σ H3) : gSub te tv ts v σ H Qs := h
theorem r_gslc {tl th : TO} (h : te σ H fun x H1 => tl σ H1 fun l H2 => th σ H2 fun u H3 => ∃ (p b : Addr) (xs ys : List V) (a c : Int), x = .ref p ∧ v = .ref b ∧ l = some a ∧ u = some c ∧ H3 p = some (.lst xs) ∧ H3 b = some (.lst ys) ∧ p ≠ b ∧ 0 ≤ a ∧ a ≤ c ∧ c ≤ xs.length ∧ xs.length + ys.length ≤ sizeLine ∧
    Qs σ (upd H3 p (.lst (xs.take a.toNat ++ ys ++ xs.drop c.toNat)))) : gSlc te tl th v σ H Qs := h
theorem r_setL {Qh : Hp → Prop} {p : Addr} {xs : List V} {n : Nat} (h : H p = some (.lst xs)) (hi : ixN xs.length i = some n) (q : Qh (upd H p (.lst (xs.set n v)))) : rSetL (.ref p) (.int i) v H Qh := ⟨p, xs, i, n, rfl, rfl, h, hi, q⟩
end
theorem szL {n : Nat} (h : Nat.ble n 16777216 = true) : n ≤ sizeLine := Nat.le_of_ble_eq_true h
theorem at_0 {x : V} {xs : List V} : atI (x :: xs) 0 = some x := at_of (j := 0) rfl rfl
theorem at_1 {x y : V} {xs : List V} : atI (x :: y :: xs) 1 = some y := at_of (j := 1) rfl rfl
theorem at_2 {x y z : V} {xs : List V} : atI (x :: y :: z :: xs) 2 = some z := at_of (j := 2) rfl rfl
theorem at_3 {x y z u : V} {xs : List V} : atI (x :: y :: z :: u :: xs) 3 = some u := at_of (j := 3) rfl rfl
theorem sq {K : PySem.W.Frag} {H : Hp} {p : Addr} {xs : List V} (h : H p = some (.lst xs)) : SqL K H p xs := .inl (.inl h)
theorem sqT {K : PySem.W.Frag} {H : Hp} {p : Addr} {xs : List V} (h : H p = some (.tup xs)) : SqT K H p xs := .inl (.inl h)

section
variable {w : World} {H : Hp} {σ : L2.St} {Q : VK} {te : TE} {tA : TA} {a : Addr} {k : Int} {S : Int → Bool} {n : Nat}
theorem r_set0 (q : ∀ p, H p = none → Q (.ref p) (upd H p (SetO w p (fun _ => false) 0))) : rSet0 w [] H Q := ⟨rfl, q⟩
theorem r_sin (h : H a = some (SetO w a S n)) (q : Q (.bl (S k)) H) : rSIn w (.int k) (.ref a) H Q := ⟨k, a, S, n, rfl, rfl, h, q⟩
theorem r_snotin (h : H a = some (SetO w a S n)) (q : Q (.bl (!S k)) H) : rSNotIn w (.int k) (.ref a) H Q := ⟨k, a, S, n, rfl, rfl, h, q⟩
theorem r_sadd0 (h : te σ H fun x H1 => (∃ a S n, x = V.ref a ∧ H1 a = some (SetO w a S n)) ∧ tA σ H1 fun xs H2 => rSAdd w x xs H2 Q) : tSAdd w te tA σ H Q := h
theorem r_sadd (h : H a = some (SetO w a S n)) (hn : n + 1 < 4096) (q : Q .non (upd H a (SetO w a (fun j => S j || decide (j = k)) (if S k = true then n else n + 1)))) : rSAdd w (.ref a) [.int k] H Q := ⟨a, k, S, n, rfl, rfl, h, hn, q⟩
end
/-! ### what a for walks -/
section
variable {K : PySem.W.Frag} {σ : L2.St} {H : Hp} {tA : TA} {te : TE} {R : L2.It → Hp → Prop}
theorem r_iEnum (h : tA σ H fun vs H1 => ∃ a xs, vs = [.ref a] ∧ SqL K H1 a xs ∧ R (Ite K a) H1) : iEnum K tA σ H R := h
theorem r_iList (h : te σ H fun x H1 => ∃ a, x = .ref a ∧ (∃ xs, SqL K H1 a xs) ∧ R (Itl K a) H1) : iList K te σ H R := h
theorem r_iTup (h : te σ H fun x H1 => ∃ a, x = .ref a ∧ (∃ xs, SqT K H1 a xs) ∧ R (Itt K a) H1) : iTup K te σ H R := h
theorem r_iRng1 (h : tA σ H fun vs H1 => ∃ j : Int, vs = [.int j] ∧ -(2 ^ 62) ≤ j ∧ j < 2 ^ 62 ∧ R (Itr 0 j.toNat) H1) : iRng1 tA σ H R := h
theorem r_iRng2 (h : tA σ H fun vs H1 => ∃ i j : Int, vs = [.int i, .int j] ∧ (-(2 ^ 62) ≤ i ∧ i < 2 ^ 62 ∧ -(2 ^ 62) ≤ j ∧ j < 2 ^ 62) ∧ R (Itr i (j - i).toNat) H1) : iRng2 tA σ H R := h
theorem r_iRng3 (h : tA σ H fun vs H1 => ∃ (i j c : Int) (n : Nat), vs = [.int i, .int j, .int c] ∧ RgC i j c n ∧ R (Itc i c n) H1) : iRng3 tA σ H R := h
theorem r_iZip (h : tA σ H fun vs H1 => ∃ a b xs ys, vs = [.ref a, .ref b] ∧ SqL K H1 a xs ∧ SqL K H1 b ys ∧ R (Itz K a b) H1) : iZip K tA σ H R := h
theorem r_lc {wi : TI} {g : TG} {tt : TT} {vs : List Nat} {Q : VK} (h : wi σ H fun J H1 => ∀ D, H1 D = none → ∃ W : Nat → Nat → Hp → Prop, (∃ m, W 0 m (upd H1 D (.lst []))) ∧ ∀ i m H, W i m H →
  (J.stop i H ∧ Q (.ref D) H) ∨ (J.go i H ∧ ∃ Nx : Hp → Prop, (∀ H', Nx H' → ∃ m', m' < m ∧ W (i + 1) m' H') ∧ ∀ x H', J.yld i H x H' → g x (wipe σ vs) H' fun σ2 H2 => wipe σ2 vs = wipe σ vs ∧ tt σ2 H2 fun b H3 =>
    if b = true then te σ2 H3 fun y H4 => ∃ acc, H4 D = some (.lst acc) ∧ acc.length < sizeLine ∧ Nx (upd H4 D (.lst (acc ++ [y]))) else Nx H3)) : tLc wi g tt te vs σ H Q := h
theorem r_lrg {tr : L2.St → Hp → (Int → Int → Hp → Prop) → Prop} {Q : VK} (h : tr σ H fun a b H1 => RgOk a b ∧ ∀ q, H1 q = none → Q (.ref q) (upd H1 q (.lst (rgV a b)))) : tLstRg tr σ H Q := h
theorem r_rg1 {Q : Int → Int → Hp → Prop} (h : te σ H fun x H1 => ∃ n, x = .int n ∧ Q 0 n H1) : tRg1 te σ H Q := h
theorem r_rg2 {tb : TE} {Q : Int → Int → Hp → Prop} (h : te σ H fun x H1 => tb σ H1 fun y H2 => ∃ i j, x = .int i ∧ y = .int j ∧ Q i j H2) : tRg2 te tb σ H Q := h
theorem r_l3 {Q : VK} (h : tA σ H fun vs H1 => ∃ (i j c : Int) (n : Nat), vs = [.int i, .int j, .int c] ∧ RgC i j c n ∧ n ≤ 2 ^ 24 ∧ ∀ q, H1 q = none → Q (.ref q) (upd H1 q (.lst (rg3V i c n)))) : tLst3 tA σ H Q := h
theorem r_revL {Q : VK} (h : te σ H fun x H1 => ∃ a xs, x = .ref a ∧ SqL K H1 a xs ∧ ∀ p, H1 p = none → Q (.ref p) (upd H1 p (.lst xs.reverse))) : tRevL K te σ H Q := h
theorem r_exr {a : Addr} {f : Addr → Prop} (h : f a) : ∃ b, V.ref a = .ref b ∧ f b := ⟨a, rfl, h⟩
end
section
variable {σ : L2.St} {H : Hp} {c : TT} {tb : TS} {nx bk ct : L2.St → Hp → Prop} {rt : VK}
theorem r_while (W : Nat → L2.St → Hp → Prop) (m : Nat) (h0 : W m σ H) (hs : ∀ m σ H, W m σ H → c σ H fun b H1 => if b = true then ∃ N : L2.St → Hp → Prop, (∀ σ' H', N σ' H' → ∃ m', m' < m ∧ W m' σ' H') ∧ tb ⟨N, rt, nx, N⟩ σ H1 else nx σ H1) : tWhile c tb ⟨nx, rt, bk, ct⟩ σ H :=
  ⟨W, ⟨m, h0⟩, hs⟩
theorem r_turn {W : Nat → L2.St → Hp → Prop} {m : Nat} (h : tb ⟨fun σ' H' => ∃ m', m' < m ∧ W m' σ' H', rt, nx, fun σ' H' => ∃ m', m' < m ∧ W m' σ' H'⟩ σ H) : ∃ N : L2.St → Hp → Prop, (∀ σ' H', N σ' H' → ∃ m', m' < m ∧ W m' σ' H') ∧ tb ⟨N, rt, nx, N⟩ σ H :=
  ⟨_, fun _ _ h => h, h⟩
theorem r_itD {p : Prop} [Decidable p] {A B : Prop} (hp : p) (h : A) : if decide p = true then A else B := by rw [decide_eq_true hp]; exact h
theorem r_itDF {p : Prop} [Decidable p] {A B : Prop} (hp : ¬p) (h : B) : if decide p = true then A else B := by rw [decide_eq_false hp]; exact h
theorem r_itN {p : Prop} [Decidable p] {A B : Prop} (hp : ¬p) (h : A) : if (!decide p) = true then A else B := by rw [decide_eq_false hp]; exact h
theorem r_itNF {p : Prop} [Decidable p] {A B : Prop} (hp : p) (h : B) : if (!decide p) = true then A else B := by rw [decide_eq_true hp]; exact h
theorem r_popAt {l : Addr} {xs : List V} {i : Int} {k : Nat} {y : V} {Q : VK} (h : H l = some (.lst xs)) (e : i = (k : Int)) (hk : xs[k]? = some y) (hz : k < 2 ^ 63) (q : Q y (upd H l (.lst (xs.eraseIdx k)))) : rPopAt (.ref l) [.int i] H Q := by
  subst e
  have hl : k < xs.length := (List.getElem?_eq_some_iff.mp hk).1
  exact ⟨l, xs, k, k, y, rfl, rfl, h, by omega, by omega, seqIndex_of (by omega) (by omega), hk, q⟩
end
/-! ### what stands in a heap -/
/-- all but r stands as it was -/
def Sx (r : Addr) (H H' : Hp) : Prop := ∀ b o, b ≠ r → H b = some o → H' b = some o
section
variable {H H' : Hp} {a b r : Addr} {o u : HO}
theorem upd_old (np : H a = none) (h : H b = some u) : upd H a o b = some u := (upd_ne (ne_of_none h np)).trans h
theorem upd_to (n : b ≠ a) (h : H b = some u) : upd H a o b = some u := (upd_ne n).trans h
theorem same_to (s : Same H H') (h : H b = some u) : H' b = some u := s b u h
theorem sx_to (s : Sx r H H') (n : b ≠ r) (h : H b = some u) : H' b = some u := s b u n h
theorem sx_of (s : Same H H') : Sx r H H' := fun b o _ h => s b o h
theorem same_new (np : H a = none) : Same H (upd H a o) := fun b u h => upd_old np h
theorem same_old {H0 : Hp} (s : Same H0 H) (n : H0 a = none) : Same H0 (upd H a o) := fun b u h => upd_to (ne_of_none h n) (s b u h)
theorem Sx.refl : Sx r H H := fun _ _ _ h => h
theorem Sx.trans {H1 : Hp} (s : Sx r H H1) (t : Sx r H1 H') : Sx r H H' := fun b o n h => t b o n (s b o n h)
theorem Sx.put : Sx r H (L2.upd H r o) := fun b u n h => upd_to n h
theorem Sx.new (np : H a = none) : Sx r H (L2.upd H a o) := fun b u _ h => upd_old np h
theorem Sx.old {H0 : Hp} (s : Sx r H0 H) (n : H0 a = none) : Sx r H0 (L2.upd H a o) := fun b u hb h => upd_to (ne_of_none h n) (s b u hb h)
theorem Sx.same {H1 : Hp} (s : Sx r H H1) (t : Same H1 H') : Sx r H H' := s.trans (sx_of t)
theorem Sx.free (s : Sx r H H') (hr : H' r = some u) (h : H' a = none) : H a = none := by
  cases q : H a with
  | none => rfl
  | some o =>
    by_cases e : a = r
    · subst e; rw [hr] at h; cases h
    · rw [s a o e q] at h; cases h
end
end Xk
/-- one step whose answer is known -/
local macro_rules | `(tactic| fail "one") => `(tactic| with_reducible first
  | refine Xk.r_c ?_ | refine Xk.r_op ?_ | refine Xk.r_un ?_ | refine Xk.r_I0 ?_ | refine Xk.r_U ?_ | refine Xk.r_nil ?_ | refine Xk.r_cons ?_ | refine Xk.r_lst ?_ | refine Xk.r_tup ?_
  | refine Xk.r_call ?_ | refine Xk.r_callK ?_ | refine Xk.r_cb ?_ | refine Xk.r_ckw ?_ | refine Xk.r_sl ?_ | refine Xk.r_part ?_ | refine Xk.r_nopart ?_ | refine Xk.r_exi ?_ | refine Xk.r_exb ?_ | refine Xk.r_bm ?_ | refine Xk.r_bm0 ?_
  | refine Xk.r_if ?_ | refine Xk.r_andV ?_ | refine Xk.r_orV ?_ | refine Xk.r_notV ?_ | refine Xk.r_eqI ?_ | refine Xk.r_neI ?_ | refine Xk.r_eqS ?_ | refine Xk.r_neS ?_
  | refine Xk.r_test ?_ | refine Xk.r_tB ?_ | refine Xk.r_tand ?_ | refine Xk.r_tor ?_ | refine Xk.r_tnot ?_ | refine Xk.r_yes ?_ | refine Xk.r_itT ?_ | refine Xk.r_itF ?_ | refine Xk.r_notT ?_ | refine Xk.r_notF ?_
  | refine Xk.r_seq ?_ | refine Xk.r_next ?_ | refine Xk.r_asg ?_ | refine Xk.r_ret ?_ | refine Xk.r_drop ?_ | refine Xk.r_ifS ?_ | refine Xk.r_par ?_ | refine Xk.r_ex2 ?_ | refine Xk.r_brk ?_ | refine Xk.r_cont ?_ | refine Xk.r_ipI ?_ | refine Xk.r_for ?_
  | refine Xk.r_augS ?_ | refine Xk.r_sadd0 ?_ | refine Xk.r_iEnum ?_ | refine Xk.r_iList ?_ | refine Xk.r_iTup ?_ | refine Xk.r_iRng1 ?_ | refine Xk.r_iRng2 ?_ | refine Xk.r_iRng3 ?_ | refine Xk.r_iZip ?_ | refine Xk.r_lc ?_ | refine Xk.r_lrg ?_ | refine Xk.r_rg1 ?_ | refine Xk.r_rg2 ?_ | refine Xk.r_l3 ?_ | refine Xk.r_revL ?_ | refine Xk.r_exr ?_
  | refine Xk.r_name ?_ | refine Xk.r_gcons ?_ | refine Xk.r_gnil ?_ | refine Xk.r_gsub ?_ | refine Xk.r_gslc ?_)
local macro_rules | `(tactic| fail "ne") => `(tactic| first | assumption | (apply Ne.symm; assumption) | (exact L2.ne_of_none (by assumption) (by assumption)) | (apply Ne.symm; exact L2.ne_of_none (by assumption) (by assumption)))
/-- what stands at an address -/
local macro_rules | `(tactic| fail "hp") => `(tactic| with_reducible first
  | assumption | exact L2.upd_same
  | ((refine' Xk.upd_old ?np ?_); (case np => assumption); fail "hp")
  | ((refine' Xk.same_to ?hs ?_); (case hs => assumption); fail "hp")
  | ((refine' Xk.sx_to ?hs ?hn ?_); (case hs => assumption); (case hn => fail "ne"); fail "hp")
  | ((refine' Xk.upd_to ?hn ?_); (case hn => fail "ne"); fail "hp"))
local macro_rules | `(tactic| fail "sq") => `(tactic| ((with_reducible show L2.SqL _ _ _ _); first | (with_reducible assumption) | exact Xk.sq (by fail "hp") | (with_reducible exact L2.Same.seq (by assumption) (by assumption))))
local macro_rules | `(tactic| fail "sd") => `(tactic| first | assumption | omega | decide)
local macro_rules | `(tactic| fail "at") => `(tactic| first
  | (with_reducible exact Xk.at_0) | (with_reducible exact Xk.at_1) | (with_reducible exact Xk.at_2) | (with_reducible exact Xk.at_3)
  | ((with_reducible show L2.atI (List.set (_ :: _) _ _) _ = _); exact rfl))
local macro_rules | `(tactic| fail "ix") => `(tactic| ((with_reducible show L2.ixN (List.length (_ :: _)) _ = _); exact rfl))
local macro_rules | `(tactic| fail "two") => `(tactic| first
  | ((with_reducible refine' Xk.r_var ?hv ?_); (case hv => exact rfl))
  | ((with_reducible refine' Xk.r_aug ?hv ?_); (case hv => exact rfl))
  | ((with_reducible refine' Xk.r_ixL ?hv ?hw ?_); (case hv => fail "sq"); (case hw => fail "at"))
  | ((with_reducible refine' Xk.r_setL ?hv ?hw ?_); (case hv => fail "hp"); (case hw => fail "ix"))
  | ((with_reducible refine' Xk.r_slL ?hv ?_); (case hv => fail "sq"))
  | ((with_reducible refine' Xk.r_gtup ?hv ?hw ?_); (case hv => exact Xk.sqT (by fail "hp")); (case hw => exact rfl))
  | ((with_reducible refine' ⟨Xk.ty_list (K := _) (xs := _) ?hv, ?_⟩); (case hv => fail "sq"))
  | ((with_reducible refine' Xk.r_append ?hv ?hw ?_); (case hv => fail "hp"); (case hw => fail "sd"))
  | ((with_reducible refine' Xk.r_I (C := fun _ j => 0 < j) ?hv ?_); (case hv => (first | omega | (show (0 : Int) < _; omega) | decide)))
  | ((with_reducible refine' Xk.r_len ?hv ?_); (case hv => fail "sq"))
  | ((with_reducible refine' Xk.r_listOf ?hv ?_); (case hv => fail "sq"))
  | ((with_reducible refine' Xk.r_I (C := Xk.CPowW) ?hv ?_); (case hv => exact ⟨by decide, by decide⟩))
  | (with_reducible refine ⟨Xk.szL (by with_unfolding_all rfl), ?_⟩)
  | ((with_reducible refine' ⟨_, _, rfl, ?hv, ?_⟩); (case hv => ((with_reducible show L2.SqL _ _ _ _); fail "sq")))
  | ((with_reducible refine' ⟨⟨_, ?hv⟩, ?_⟩); (case hv => fail "sq"))
  | (with_reducible refine Or.inl ⟨_, rfl, ?_⟩) | (with_reducible refine Or.inr ⟨_, rfl, ?_⟩)
  | (with_reducible refine ⟨_, _, rfl, rfl, ?_⟩) | (with_reducible refine ⟨_, rfl, ?_⟩) | (with_reducible refine ⟨_, _, rfl, ?_⟩))
local macro_rules | `(tactic| fail "g") => `(tactic| repeat (first | fail "one" | fail "two"))

set_option Elab.async false
set_option linter.all false
set_option maxRecDepth 100000
namespace Xk
open PySem PySem.Spec PyProof.Rows L2
/-! ### slices by numbers -/
theorem cut_from {xs : List V} {z : Int} {a : Nat} (h : z = (a : Int)) : cutV xs (some z) none = xs.drop a := by
  subst h
  unfold cutV
  rw [show HT.sIx xs.length 0 (some (a : Int)) = min a xs.length from HT.sIx_nat xs.length 0 a, HT.sIx_none]
  by_cases q : a ≤ xs.length
  · rw [Nat.min_eq_left q]; exact List.take_of_length_le (by rw [List.length_drop]; omega)
  · rw [Nat.min_eq_right (by omega), List.drop_of_length_le (by omega), List.drop_of_length_le (by omega)]; simp
theorem cut_to {xs : List V} {z : Int} {b : Nat} (h : z = (b : Int)) : cutV xs none (some z) = xs.take b := by
  subst h
  unfold cutV
  rw [show HT.sIx xs.length xs.length (some (b : Int)) = min b xs.length from HT.sIx_nat xs.length xs.length b, HT.sIx_none]
  show (xs.take (min b xs.length - 0)) = _
  rw [Nat.sub_zero]
  by_cases q : b ≤ xs.length
  · rw [Nat.min_eq_left q]
  · rw [Nat.min_eq_right (by omega), List.take_of_length_le (by omega), List.take_of_length_le (by omega)]
theorem cut_mid {xs : List V} {z y : Int} {a b : Nat} (h : z = (a : Int)) (g : y = (b : Int)) (hb : b ≤ xs.length) : cutV xs (some z) (some y) = (xs.drop a).take (b - a) := by
  subst h; subst g
  unfold cutV
  rw [show HT.sIx xs.length 0 (some (a : Int)) = min a xs.length from HT.sIx_nat xs.length 0 a, show HT.sIx xs.length xs.length (some (b : Int)) = min b xs.length from HT.sIx_nat xs.length xs.length b, Nat.min_eq_left hb]
  by_cases q : a ≤ xs.length
  · rw [Nat.min_eq_left q]
  · rw [Nat.min_eq_right (by omega), show b - xs.length = 0 by omega, show b - a = 0 by omega]; rfl
theorem map_drop' {α β : Type} (f : α → β) (l : List α) (n : Nat) : (l.map f).drop n = (l.drop n).map f := by simp
theorem at_map {ns : List Int} {z : Int} {j : Nat} (e : z = (j : Int)) (h : j < ns.length) : atI (ns.map V.int) z = some (.int ns[j]) :=
  at_of e (by simp [h])
theorem ix_of {n j : Nat} {z : Int} (e : z = (j : Int)) (h : j < n) : ixN n z = some j := by
  subst e; unfold ixN; rw [if_pos (by omega), if_pos (by omega)]; simp
theorem map_set' (ns : List Int) (j : Nat) (x : Int) : (ns.map V.int).set j (V.int x) = (ns.set j x).map V.int := by simp
theorem map_snoc (ns : List Int) (x : Int) : ns.map V.int ++ [V.int x] = (ns ++ [x]).map V.int := by simp
theorem size_lt {n : Nat} (h : n < 16777216) : n < sizeLine := h
theorem size_le {n : Nat} (h : n ≤ 16777216) : n ≤ sizeLine := h

/-! ### comprehensions whose turns leave what stood -/
section
variable {J : It} {n : Nat} {G : Hp → Prop} {Y : Nat → Hp → V → Hp → Prop}
theorem forI (w : Walk J n G Y) {g : TG} {tb : TS} {nx : L2.St → Hp → Prop} {rt : VK} {σ : L2.St} {H : Hp} (Pv : Nat → L2.St → Hp → Prop) (h0 : Pv 0 σ H) (hG : ∀ i σ H, i ≤ n → Pv i σ H → G H)
    (hs : ∀ i x σ H H', i < n → Pv i σ H → Y i H x H' → g x σ H' fun σ2 H2 => tb ⟨Pv (i + 1), rt, nx, Pv (i + 1)⟩ σ2 H2) (hd : ∀ σ H, Pv n σ H → nx σ H) :
    ∃ W : Nat → Nat → L2.St → Hp → Prop, (∃ m, W 0 m σ H) ∧ ∀ i m σ H, W i m σ H →
      (J.stop i H ∧ nx σ H) ∨ (J.go i H ∧ ∃ N : L2.St → Hp → Prop, (∀ σ' H', N σ' H' → ∃ m', m' < m ∧ W (i + 1) m' σ' H') ∧ ∀ x H', J.yld i H x H' → g x σ H' fun σ2 H2 => tb ⟨N, rt, nx, N⟩ σ2 H2) :=
  for_it (D := ⟨nx, rt, fun _ _ => False, fun _ _ => False⟩) w Pv h0 hG hs hd
theorem forA {xs : List V} (w : Walk J xs.length G (YAt xs)) {g : TG} {tb : TS} {nx : L2.St → Hp → Prop} {rt : VK} {σ : L2.St} {H : Hp} (Pv : Nat → L2.St → Hp → Prop) (h0 : Pv 0 σ H) (hG : ∀ i σ H, i ≤ xs.length → Pv i σ H → G H)
    (hs : ∀ i σ H (hi : i < xs.length), Pv i σ H → g xs[i] σ H fun σ2 H2 => tb ⟨Pv (i + 1), rt, nx, Pv (i + 1)⟩ σ2 H2) (hd : ∀ σ H, Pv xs.length σ H → nx σ H) :
    ∃ W : Nat → Nat → L2.St → Hp → Prop, (∃ m, W 0 m σ H) ∧ ∀ i m σ H, W i m σ H →
      (J.stop i H ∧ nx σ H) ∨ (J.go i H ∧ ∃ N : L2.St → Hp → Prop, (∀ σ' H', N σ' H' → ∃ m', m' < m ∧ W (i + 1) m' σ' H') ∧ ∀ x H', J.yld i H x H' → g x σ H' fun σ2 H2 => tb ⟨N, rt, nx, N⟩ σ2 H2) :=
  forI w Pv h0 hG (fun i x σ H H' hi p y => by
    obtain ⟨rfl, e⟩ := y
    rw [List.getElem?_eq_getElem hi] at e
    cases e
    exact hs i σ H' hi p) hd
theorem forAI {ns : List Int} (w : Walk J (ns.map V.int).length G (YAt (ns.map V.int))) {g : TG} {tb : TS} {nx : L2.St → Hp → Prop} {rt : VK} {σ : L2.St} {H : Hp} (Pv : Nat → L2.St → Hp → Prop) (h0 : Pv 0 σ H) (hG : ∀ i σ H, i ≤ (ns.map V.int).length → Pv i σ H → G H)
    (hs : ∀ i σ H (hi : i < ns.length), Pv i σ H → g (.int ns[i]) σ H fun σ2 H2 => tb ⟨Pv (i + 1), rt, nx, Pv (i + 1)⟩ σ2 H2) (hd : ∀ σ H, Pv (ns.map V.int).length σ H → nx σ H) :
    ∃ W : Nat → Nat → L2.St → Hp → Prop, (∃ m, W 0 m σ H) ∧ ∀ i m σ H, W i m σ H →
      (J.stop i H ∧ nx σ H) ∨ (J.go i H ∧ ∃ N : L2.St → Hp → Prop, (∀ σ' H', N σ' H' → ∃ m', m' < m ∧ W (i + 1) m' σ' H') ∧ ∀ x H', J.yld i H x H' → g x σ H' fun σ2 H2 => tb ⟨N, rt, nx, N⟩ σ2 H2) :=
  forI w Pv h0 hG (fun i x σ H H' hi p y => by
    obtain ⟨rfl, e⟩ := y
    have hi' : i < ns.length := by simpa using hi
    rw [List.getElem?_map, List.getElem?_eq_getElem hi'] at e
    cases e
    exact hs i σ H' hi' p) hd
theorem forF {f : Nat → V} (w : Walk J n G (YFn f)) {g : TG} {tb : TS} {nx : L2.St → Hp → Prop} {rt : VK} {σ : L2.St} {H : Hp} (Pv : Nat → L2.St → Hp → Prop) (h0 : Pv 0 σ H) (hG : ∀ i σ H, i ≤ n → Pv i σ H → G H)
    (hs : ∀ i σ H, i < n → Pv i σ H → g (f i) σ H fun σ2 H2 => tb ⟨Pv (i + 1), rt, nx, Pv (i + 1)⟩ σ2 H2) (hd : ∀ σ H, Pv n σ H → nx σ H) :
    ∃ W : Nat → Nat → L2.St → Hp → Prop, (∃ m, W 0 m σ H) ∧ ∀ i m σ H, W i m σ H →
      (J.stop i H ∧ nx σ H) ∨ (J.go i H ∧ ∃ N : L2.St → Hp → Prop, (∀ σ' H', N σ' H' → ∃ m', m' < m ∧ W (i + 1) m' σ' H') ∧ ∀ x H', J.yld i H x H' → g x σ H' fun σ2 H2 => tb ⟨N, rt, nx, N⟩ σ2 H2) :=
  forI w Pv h0 hG (fun i x σ H H' hi p y => by
    obtain ⟨rfl, rfl⟩ := y
    exact hs i σ H' hi p) hd
theorem forP {f1 f2 : Nat → Option V} (w : Walk J n G (YPair f1 f2)) {g : TG} {tb : TS} {nx : L2.St → Hp → Prop} {rt : VK} {σ : L2.St} {H : Hp} (Pv : Nat → L2.St → Hp → Prop) (h0 : Pv 0 σ H) (hG : ∀ i σ H, i ≤ n → Pv i σ H → G H)
    (hs : ∀ i σ H T x y, i < n → Pv i σ H → f1 i = some x → f2 i = some y → H T = none → g (.ref T) σ (upd H T (.tup [x, y])) fun σ2 H2 => tb ⟨Pv (i + 1), rt, nx, Pv (i + 1)⟩ σ2 H2) (hd : ∀ σ H, Pv n σ H → nx σ H) :
    ∃ W : Nat → Nat → L2.St → Hp → Prop, (∃ m, W 0 m σ H) ∧ ∀ i m σ H, W i m σ H →
      (J.stop i H ∧ nx σ H) ∨ (J.go i H ∧ ∃ N : L2.St → Hp → Prop, (∀ σ' H', N σ' H' → ∃ m', m' < m ∧ W (i + 1) m' σ' H') ∧ ∀ x H', J.yld i H x H' → g x σ H' fun σ2 H2 => tb ⟨N, rt, nx, N⟩ σ2 H2) :=
  forI w Pv h0 hG (fun i x σ H H' hi p y => by
    obtain ⟨T, x, y, rfl, nT, rfl, e1, e2⟩ := y
    exact hs i σ H T x y hi p e1 e2 nT) hd
theorem forEI {ns : List Int} (w : Walk J (ns.map V.int).length G (YPair (fun i => some (.int (i : Nat))) (fun i => (ns.map V.int)[i]?))) {g : TG} {tb : TS} {nx : L2.St → Hp → Prop} {rt : VK} {σ : L2.St} {H : Hp} (Pv : Nat → L2.St → Hp → Prop) (h0 : Pv 0 σ H) (hG : ∀ i σ H, i ≤ (ns.map V.int).length → Pv i σ H → G H)
    (hs : ∀ i σ H T (hi : i < ns.length), Pv i σ H → H T = none → g (.ref T) σ (upd H T (.tup [.int (i : Nat), .int ns[i]])) fun σ2 H2 => tb ⟨Pv (i + 1), rt, nx, Pv (i + 1)⟩ σ2 H2) (hd : ∀ σ H, Pv (ns.map V.int).length σ H → nx σ H) :
    ∃ W : Nat → Nat → L2.St → Hp → Prop, (∃ m, W 0 m σ H) ∧ ∀ i m σ H, W i m σ H →
      (J.stop i H ∧ nx σ H) ∨ (J.go i H ∧ ∃ N : L2.St → Hp → Prop, (∀ σ' H', N σ' H' → ∃ m', m' < m ∧ W (i + 1) m' σ' H') ∧ ∀ x H', J.yld i H x H' → g x σ H' fun σ2 H2 => tb ⟨N, rt, nx, N⟩ σ2 H2) :=
  forI w Pv h0 hG (fun i x σ H H' hi p y => by
    obtain ⟨T, x, y, rfl, nT, rfl, e1, e2⟩ := y
    have hi' : i < ns.length := by simpa using hi
    cases e1
    simp only [List.getElem?_map, List.getElem?_eq_getElem hi'] at e2
    cases e2
    exact hs i σ H T hi' p nT) hd
theorem lc_same (w : Walk J n G Y) {g : TG} {tt : TT} {te : TE} {vs : List Nat} {σ : L2.St} {H0 H1 : Hp} {D : Addr} {Qd : Hp → Prop} (acc : Nat → List V) (hD : H1 D = none) (h01 : Same H0 H1) (a0 : acc 0 = [])
    (hG : ∀ H, Same H0 H → G H)
    (hs : ∀ i x H H', i < n → Same H0 H ∧ H D = some (.lst (acc i)) → Y i H x H' → g x (wipe σ vs) H' fun σ2 H2 => wipe σ2 vs = wipe σ vs ∧ tt σ2 H2 fun b H3 =>
      if b = true then te σ2 H3 fun y H4 => ∃ l, H4 D = some (.lst l) ∧ l.length < sizeLine ∧ Same H0 (upd H4 D (.lst (l ++ [y]))) ∧ (upd H4 D (.lst (l ++ [y]))) D = some (.lst (acc (i + 1))) else Same H0 H3 ∧ H3 D = some (.lst (acc (i + 1))))
    (hd : ∀ H, Same H0 H → H D = some (.lst (acc n)) → Qd H) :
    ∃ W : Nat → Nat → Hp → Prop, (∃ m, W 0 m (upd H1 D (.lst []))) ∧ ∀ i m H, W i m H →
      (J.stop i H ∧ Qd H) ∨ (J.go i H ∧ ∃ Nx : Hp → Prop, (∀ H', Nx H' → ∃ m', m' < m ∧ W (i + 1) m' H') ∧ ∀ x H', J.yld i H x H' → g x (wipe σ vs) H' fun σ2 H2 => wipe σ2 vs = wipe σ vs ∧ tt σ2 H2 fun b H3 =>
        if b = true then te σ2 H3 fun y H4 => ∃ acc, H4 D = some (.lst acc) ∧ acc.length < sizeLine ∧ Nx (upd H4 D (.lst (acc ++ [y]))) else Nx H3) :=
  lc_it w (fun i H => Same H0 H ∧ H D = some (.lst (acc i))) ⟨same_old h01 (h01.free hD), by rw [a0]; exact upd_same⟩ (fun i H _ p => hG H p.1) hs (fun H p => hd H p.1 p.2)
theorem lc_sameAI {ns : List Int} (w : Walk J (ns.map V.int).length G (YAt (ns.map V.int))) {g : TG} {tt : TT} {te : TE} {vs : List Nat} {σ : L2.St} {H0 H1 : Hp} {D : Addr} {Qd : Hp → Prop} (acc : Nat → List V) (hD : H1 D = none) (h01 : Same H0 H1) (a0 : acc 0 = [])
    (hG : ∀ H, Same H0 H → G H)
    (hs : ∀ i H (hi : i < ns.length), Same H0 H ∧ H D = some (.lst (acc i)) → g (.int ns[i]) (wipe σ vs) H fun σ2 H2 => wipe σ2 vs = wipe σ vs ∧ tt σ2 H2 fun b H3 =>
      if b = true then te σ2 H3 fun y H4 => ∃ l, H4 D = some (.lst l) ∧ l.length < sizeLine ∧ Same H0 (upd H4 D (.lst (l ++ [y]))) ∧ (upd H4 D (.lst (l ++ [y]))) D = some (.lst (acc (i + 1))) else Same H0 H3 ∧ H3 D = some (.lst (acc (i + 1))))
    (hd : ∀ H, Same H0 H → H D = some (.lst (acc ns.length)) → Qd H) :
    ∃ W : Nat → Nat → Hp → Prop, (∃ m, W 0 m (upd H1 D (.lst []))) ∧ ∀ i m H, W i m H →
      (J.stop i H ∧ Qd H) ∨ (J.go i H ∧ ∃ Nx : Hp → Prop, (∀ H', Nx H' → ∃ m', m' < m ∧ W (i + 1) m' H') ∧ ∀ x H', J.yld i H x H' → g x (wipe σ vs) H' fun σ2 H2 => wipe σ2 vs = wipe σ vs ∧ tt σ2 H2 fun b H3 =>
        if b = true then te σ2 H3 fun y H4 => ∃ acc, H4 D = some (.lst acc) ∧ acc.length < sizeLine ∧ Nx (upd H4 D (.lst (acc ++ [y]))) else Nx H3) :=
  lc_same w acc hD h01 a0 hG (fun i x H H' hi p y => by
    obtain ⟨rfl, e⟩ := y
    have hi' : i < ns.length := by simpa using hi
    rw [List.getElem?_map, List.getElem?_eq_getElem hi'] at e
    cases e
    exact hs i H' hi' p) (fun H p q => hd H p (by simpa using q))
theorem lc_sameEI {ns : List Int} (w : Walk J (ns.map V.int).length G (YPair (fun i => some (.int (i : Nat))) (fun i => (ns.map V.int)[i]?))) {g : TG} {tt : TT} {te : TE} {vs : List Nat} {σ : L2.St} {H0 H1 : Hp} {D : Addr} {Qd : Hp → Prop} (acc : Nat → List V) (hD : H1 D = none) (h01 : Same H0 H1) (a0 : acc 0 = [])
    (hG : ∀ H, Same H0 H → G H)
    (hs : ∀ i H T (hi : i < ns.length), Same H0 H ∧ H D = some (.lst (acc i)) → H T = none → g (.ref T) (wipe σ vs) (upd H T (.tup [.int (i : Nat), .int ns[i]])) fun σ2 H2 => wipe σ2 vs = wipe σ vs ∧ tt σ2 H2 fun b H3 =>
      if b = true then te σ2 H3 fun y H4 => ∃ l, H4 D = some (.lst l) ∧ l.length < sizeLine ∧ Same H0 (upd H4 D (.lst (l ++ [y]))) ∧ (upd H4 D (.lst (l ++ [y]))) D = some (.lst (acc (i + 1))) else Same H0 H3 ∧ H3 D = some (.lst (acc (i + 1))))
    (hd : ∀ H, Same H0 H → H D = some (.lst (acc ns.length)) → Qd H) :
    ∃ W : Nat → Nat → Hp → Prop, (∃ m, W 0 m (upd H1 D (.lst []))) ∧ ∀ i m H, W i m H →
      (J.stop i H ∧ Qd H) ∨ (J.go i H ∧ ∃ Nx : Hp → Prop, (∀ H', Nx H' → ∃ m', m' < m ∧ W (i + 1) m' H') ∧ ∀ x H', J.yld i H x H' → g x (wipe σ vs) H' fun σ2 H2 => wipe σ2 vs = wipe σ vs ∧ tt σ2 H2 fun b H3 =>
        if b = true then te σ2 H3 fun y H4 => ∃ acc, H4 D = some (.lst acc) ∧ acc.length < sizeLine ∧ Nx (upd H4 D (.lst (acc ++ [y]))) else Nx H3) :=
  lc_same w acc hD h01 a0 hG (fun i x H H' hi p y => by
    obtain ⟨T, x, y, rfl, nT, rfl, e1, e2⟩ := y
    have hi' : i < ns.length := by simpa using hi
    cases e1
    simp only [List.getElem?_map, List.getElem?_eq_getElem hi'] at e2
    cases e2
    exact hs i H T hi' p nT) (fun H p q => hd H p (by simpa using q))
theorem lc_sameF {n : Nat} {f : Nat → V} (w : Walk J n G (YFn f)) {g : TG} {tt : TT} {te : TE} {vs : List Nat} {σ : L2.St} {H0 H1 : Hp} {D : Addr} {Qd : Hp → Prop} (acc : Nat → List V) (hD : H1 D = none) (h01 : Same H0 H1) (a0 : acc 0 = [])
    (hG : ∀ H, Same H0 H → G H)
    (hs : ∀ i H, i < n → Same H0 H ∧ H D = some (.lst (acc i)) → g (f i) (wipe σ vs) H fun σ2 H2 => wipe σ2 vs = wipe σ vs ∧ tt σ2 H2 fun b H3 =>
      if b = true then te σ2 H3 fun y H4 => ∃ l, H4 D = some (.lst l) ∧ l.length < sizeLine ∧ Same H0 (upd H4 D (.lst (l ++ [y]))) ∧ (upd H4 D (.lst (l ++ [y]))) D = some (.lst (acc (i + 1))) else Same H0 H3 ∧ H3 D = some (.lst (acc (i + 1))))
    (hd : ∀ H, Same H0 H → H D = some (.lst (acc n)) → Qd H) :
    ∃ W : Nat → Nat → Hp → Prop, (∃ m, W 0 m (upd H1 D (.lst []))) ∧ ∀ i m H, W i m H →
      (J.stop i H ∧ Qd H) ∨ (J.go i H ∧ ∃ Nx : Hp → Prop, (∀ H', Nx H' → ∃ m', m' < m ∧ W (i + 1) m' H') ∧ ∀ x H', J.yld i H x H' → g x (wipe σ vs) H' fun σ2 H2 => wipe σ2 vs = wipe σ vs ∧ tt σ2 H2 fun b H3 =>
        if b = true then te σ2 H3 fun y H4 => ∃ acc, H4 D = some (.lst acc) ∧ acc.length < sizeLine ∧ Nx (upd H4 D (.lst (acc ++ [y]))) else Nx H3) :=
  lc_same w acc hD h01 a0 hG (fun i x H H' hi p y => by
    obtain ⟨rfl, rfl⟩ := y
    exact hs i H' hi p) hd
theorem lc_add {H0 H H4 : Hp} {D : Addr} {a a' : List V} {y : V} (p : Same H0 H ∧ H D = some (.lst a)) (s : Same H H4) (hD : H0 D = none) (e : a' = a ++ [y]) (hz : a.length < sizeLine) :
    ∃ l, H4 D = some (.lst l) ∧ l.length < sizeLine ∧ Same H0 (upd H4 D (.lst (l ++ [y]))) ∧ (upd H4 D (.lst (l ++ [y]))) D = some (.lst a') :=
  ⟨a, s _ _ p.2, hz, same_old (p.1.trans s) hD, by rw [e]; exact upd_same⟩
theorem lc_skip {H0 H H4 : Hp} {D : Addr} {a a' : List V} (p : Same H0 H ∧ H D = some (.lst a)) (s : Same H H4) (e : a' = a) : Same H0 H4 ∧ H4 D = some (.lst a') := ⟨p.1.trans s, by rw [e]; exact s _ _ p.2⟩
theorem take_one {α : Type} {l : List α} {i : Nat} (hi : i < l.length) : l.take (i + 1) = l.take i ++ [l[i]] := by rw [List.take_add_one, List.getElem?_eq_getElem hi]; rfl
theorem acc_filtT {l : List Int} {f : Int → Bool} {i : Nat} (hi : i < l.length) (h : f l[i] = true) : ((l.take (i + 1)).filter f).map V.int = ((l.take i).filter f).map V.int ++ [.int l[i]] := by
  rw [take_one hi, List.filter_append, List.map_append]; simp [h]
theorem acc_filtF {l : List Int} {f : Int → Bool} {i : Nat} (hi : i < l.length) (h : f l[i] = false) : ((l.take (i + 1)).filter f).map V.int = ((l.take i).filter f).map V.int := by
  rw [take_one hi, List.filter_append, List.map_append]; simp [h]
theorem filt_len {l : List Int} {f : Int → Bool} {i : Nat} (h : l.length ≤ 1000000) : (((l.take i).filter f).map V.int).length < sizeLine := by
  rw [List.length_map]
  refine Nat.lt_of_le_of_lt (Nat.le_trans (List.length_filter_le _ _) (List.length_take_le' _ _)) (size_lt (by omega))
end
theorem erase_map {α β : Type} (f : α → β) : ∀ (l : List α) (j : Nat), (l.map f).eraseIdx j = (l.eraseIdx j).map f
  | [], _ => rfl
  | x :: r, 0 => rfl
  | x :: r, j + 1 => congrArg (f x :: ·) (erase_map f r j)
theorem erase_perm {α : Type} : ∀ (l : List α) (j : Nat) (h : j < l.length), (l[j] :: l.eraseIdx j).Perm l
  | x :: r, 0, _ => List.Perm.refl _
  | x :: r, j + 1, h => (List.Perm.swap x (r[j]'(Nat.lt_of_succ_lt_succ h)) (r.eraseIdx j)).trans ((erase_perm r j (Nat.lt_of_succ_lt_succ h)).cons x)
end Xk

set_option Elab.async false
set_option linter.all false
set_option maxRecDepth 100000
namespace Xk
open PySem PySem.Spec PyProof.Rows L2
/-! ### data -/
abbrev dI (ns : List Int) : PyData := .list (ns.map PyData.int)
section
variable {K : PySem.W.Frag} {H H' : Hp}
theorem dp_ints : ∀ ns : List Int, DpAll K H (ns.map V.int) (ns.map PyData.int)
  | [] => .nil
  | i :: r => .cons (.int i) (dp_ints r)
theorem dp_lst {a : Addr} {ns : List Int} (h : SqL K H a (ns.map V.int)) : Dp K H (.ref a) (dI ns) := .lst h (dp_ints ns)
theorem eqv_ints : ∀ ns ms : List Int, PyData.eqvAll (ns.map PyData.int) (ms.map PyData.int) = decide (ns = ms)
  | [], [] => rfl
  | [], _ :: _ => rfl
  | _ :: _, [] => rfl
  | i :: r, j :: t => by
    show ((i == j) && PyData.eqvAll (r.map PyData.int) (t.map PyData.int)) = _
    rw [eqv_ints r t]
    by_cases e : i = j
    · subst e; by_cases f : r = t
      · subst f; simp
      · simp [f]
    · simp [e]
theorem eqv_dI (ns ms : List Int) : PyData.eqv (dI ns) (dI ms) = decide (ns = ms) := eqv_ints ns ms
theorem lay_ints : ∀ ns : List Int, PyData.canLayAll0 (ns.map PyData.int) = true
  | [] => rfl
  | _ :: r => lay_ints r
theorem depth_ints : ∀ ns : List Int, PyData.depthAll (ns.map PyData.int) = 0
  | [] => rfl
  | i :: r => by show max 0 (PyData.depthAll (r.map PyData.int)) = 0; rw [depth_ints r]; rfl
theorem shaped_dI (ns : List Int) : SeqAt.shaped (dI ns) = true := by
  unfold SeqAt.shaped
  rw [Bool.and_eq_true]
  refine ⟨lay_ints ns, ?_⟩
  show decide (PyData.depthAll (ns.map PyData.int) + 1 ≤ 64) = true
  rw [depth_ints]; rfl
/-- == of two lists of ints -/
theorem r_eqL {a b : Addr} {ns ms : List Int} {Q : VK} (h : SqL K H a (ns.map V.int)) (g : SqL K H b (ms.map V.int)) (q : Q (.bl (decide (ns = ms))) H) : rEqD K (.ref a) (.ref b) H Q :=
  ⟨_, _, dp_lst h, dp_lst g, shaped_dI ns, shaped_dI ms, by rw [eqv_dI]; exact q⟩
theorem r_neL {a b : Addr} {ns ms : List Int} {Q : VK} (h : SqL K H a (ns.map V.int)) (g : SqL K H b (ms.map V.int)) (q : Q (.bl (!decide (ns = ms))) H) : rNeD K (.ref a) (.ref b) H Q :=
  ⟨_, _, dp_lst h, dp_lst g, shaped_dI ns, shaped_dI ms, by rw [eqv_dI]; exact q⟩
end

/-! ### how long a repr may be -/
def Sh (b : Nat) (d : PyData) : Prop := d.showable = true ∧ d.shown.length ≤ b
theorem Sh.mono {b c : Nat} {d : PyData} (h : Sh b d) (e : b ≤ c) : Sh c d := ⟨h.1, Nat.le_trans h.2 e⟩
theorem len_app (a b : Str) : (a ++ b).length = a.length + b.length := by
  show (a.cps ++ b.cps).size = _
  exact Array.size_append
theorem from_le : ∀ (ts : List Str) (k b : Nat) (acc : Str), (∀ t ∈ ts, t.length ≤ b) → (textFrom k acc ts).length ≤ acc.length + ts.length * (b + 2)
  | [], _, _, _, _ => by simp [textFrom]
  | t :: r, k, b, acc, h => by
    have ht := h t List.mem_cons_self
    have ih := fun acc' => from_le r (k + 1) b acc' fun t ht => h t (List.mem_cons_of_mem _ ht)
    unfold textFrom
    refine Nat.le_trans (ih _) ?_
    rw [List.length_cons, Nat.succ_mul]
    have e2 : (Str.ofString ", ").length = 2 := rfl
    have e0 : (Str.ofString "").length = 0 := rfl
    generalize r.length * (b + 2) = R
    split <;> simp only [len_app] <;> omega
theorem all_sh {b : Nat} : ∀ {ds : List PyData}, (∀ d ∈ ds, Sh b d) → PyData.showableAll ds = true ∧ ∀ t ∈ PyData.shownAll ds, t.length ≤ b
  | [], _ => ⟨rfl, fun t h => nomatch h⟩
  | d :: r, h => by
    have h1 := h d List.mem_cons_self
    have ih := all_sh fun e he => h e (List.mem_cons_of_mem _ he)
    refine ⟨?_, fun t ht => ?_⟩
    · show (d.showable && PyData.showableAll r) = true
      rw [h1.1, ih.1]; rfl
    · rcases List.mem_cons.mp (show t ∈ d.shown :: PyData.shownAll r from ht) with e | e
      · subst e; exact h1.2
      · exact ih.2 t e
theorem shown_len : ∀ ds : List PyData, (PyData.shownAll ds).length = ds.length
  | [] => rfl
  | _ :: r => congrArg (· + 1) (shown_len r)
theorem Sh.list {b : Nat} {ds : List PyData} (h : ∀ d ∈ ds, Sh b d) : Sh (ds.length * (b + 2) + 2) (.list ds) := by
  obtain ⟨h1, h2⟩ := all_sh h
  refine ⟨h1, ?_⟩
  show (listText (PyData.shownAll ds)).length ≤ _
  unfold listText
  rw [len_app]
  have := from_le (PyData.shownAll ds) 0 b "[" h2
  rw [shown_len] at this
  have e1 : ("[" : Str).length = 1 := rfl
  have e2 : ("]" : Str).length = 1 := rfl
  omega
theorem piled_le : ∀ (ts : List Str) (b : Nat), (∀ t ∈ ts, t.length ≤ b) → piled ts ≤ ts.length * (b + 2)
  | [], _, _ => by simp [piled]
  | t :: r, b, h => by
    have h1 := h t List.mem_cons_self
    have ih := piled_le r b fun e he => h e (List.mem_cons_of_mem _ he)
    have e : piled (t :: r) = t.length + 2 + piled r := by simp [piled]
    rw [e, List.length_cons, Nat.succ_mul]
    omega
theorem Sh.tuple {b : Nat} {ds : List PyData} (h : ∀ d ∈ ds, Sh b d) : Sh (ds.length * (b + 2) + 3) (.tuple ds) := by
  obtain ⟨h1, h2⟩ := all_sh h
  refine ⟨h1, ?_⟩
  show (tupleText (PyData.shownAll ds)).length ≤ _
  unfold tupleText
  rw [len_app, len_app]
  have hp := piled_le (PyData.shownAll ds) b h2
  rw [shown_len] at hp
  have e1 : ("(" : Str).length = 1 := rfl
  have e2 : (Str.ofString ",)").length = 2 := rfl
  have e3 : (Str.ofString ")").length = 1 := rfl
  by_cases q : PyData.shownAll ds = []
  · rw [q]
    have e4 : (Str.join ", " []).length = 0 := rfl
    split <;> omega
  · have := join_length_add _ q
    split <;> omega
theorem Sh.bool {b : Bool} : Sh 5 (.bool b) := ⟨rfl, by cases b <;> decide⟩
theorem Sh.none : Sh 4 .none := ⟨rfl, by decide⟩
theorem Sh.int {i : Int} {k : Nat} (hk : 0 < k) (h : i.natAbs < 10 ^ k) (h9 : k ≤ 500) : Sh (k + 1) (.int i) := by
  refine ⟨?_, ?_⟩
  · show decide (i.natAbs.log2 < 1920) = true
    rw [decide_eq_true_eq]
    by_cases z : i.natAbs = 0
    · rw [z]; decide
    · refine (Nat.log2_lt z).mpr (Nat.lt_trans h (Nat.lt_of_le_of_lt (Nat.pow_le_pow_right (by decide) h9) (by decide +kernel)))
  · show (Str.ofString (toString i)).length ≤ k + 1
    match i, h with
    | .ofNat n, h => exact Nat.le_succ_of_le (PyProof.Rows.toString_length_le (v := (n : Int)) (by omega) hk (by
        have h' : n < 10 ^ k := h
        have : ((n : Nat) : Int) < ((10 ^ k : Nat) : Int) := by omega
        simpa using this))
    | .negSucc n, h =>
      have h' : n + 1 < 10 ^ k := h
      have := PyProof.Rows.toString_length_le (v := ((n + 1 : Nat) : Int)) (by omega) hk (by
        have : ((n + 1 : Nat) : Int) < ((10 ^ k : Nat) : Int) := by omega
        simpa using this)
      rw [PyProof.Rows.ofString_length, String.length_toList] at this
      rw [PyProof.Rows.ofString_length, String.length_toList]
      show ("-" ++ toString (n + 1)).length ≤ k + 1
      rw [String.length_append]
      have e : ("-" : String).length = 1 := rfl
      have e2 : (toString ((n + 1 : Nat) : Int)) = toString (n + 1) := rfl
      rw [e2] at this
      omega
theorem Sh.ints {ns : List Int} {k : Nat} (hk : 0 < k) (h9 : k ≤ 500) (h : ∀ i ∈ ns, i.natAbs < 10 ^ k) : Sh (ns.length * (k + 3) + 2) (dI ns) := by
  have := Sh.list (b := k + 1) (ds := ns.map PyData.int) fun d hd => by
    obtain ⟨i, hi, rfl⟩ := List.mem_map.mp hd
    exact Sh.int hk (h i hi) h9
  rw [List.length_map] at this
  exact this
/-- repr(a list), in a reading -/
theorem r_repr {K : PySem.W.Frag} {H : Hp} {a : Addr} {d : PyData} {Q : VK} (h : Dp K H (.ref a) d) (hd : d.depth ≤ 60) {b : Nat} (s : Sh b d) (hb : b ≤ 16777216) (q : Q (.str d.shown) H) : rReprD K [.ref a] H Q :=
  ⟨a, d, rfl, h, s.1, hd, Nat.le_trans s.2 hb, q⟩
theorem depth_dI (ns : List Int) : (dI ns).depth ≤ 60 := by show PyData.depthAll (ns.map PyData.int) + 1 ≤ 60; rw [depth_ints]; decide
end Xk

set_option Elab.async false
set_option linter.all false
set_option maxRecDepth 100000
namespace Xk
open PySem PySem.Spec PyProof.Rows L2
/-! ### isinstance, is None, truth values compared -/
section
variable {X : Cx} (K : PySem.W.Frag)
theorem ix_seqK (hK : X.K = K := by rfl) : IxR X (rIx K) := hK ▸ ix_seq
theorem pg_unlK {es : List Expr} {g : TGs} {k : Nat} {pos : Pos} (n : Nat) (hc : X.calm = true) (h : PGs X es g) (hn : (assignEach es X.env).length = n := by rfl) (hst : (assignEach es X.env).findIdx? (·.1) = none := by rfl) (hK : X.K = K := by rfl) : PG X (.Tuple es k pos) (gUnl K n g) := hK ▸ pg_unl hc h hn hst
/-- x in xs, data of few layers -/
def rInE (K : PySem.W.Frag) : R2 := fun x y H Q => ∃ d ds, Dp K H x d ∧ Dp K H y (.list ds) ∧ SeqAt.shaped d = true ∧ SeqAt.shaped (.list ds) = true ∧ d.depth ≤ 60 ∧ Q (.bl (ds.any fun z => PyData.eqv z d)) H
theorem op_inE (hu : X.A.units + 64 < cLine) (hK : X.K = K := by rfl) : OpR X (compareOp .In) (rInE K) := by
  subst hK
  intro pins s σ H x y v u Q I rx ry h
  obtain ⟨d, ds, hd, he, sd, se, dd, q⟩ := h
  obtain ⟨as, r1⟩ := Dp.reads I d x v hd rx
  obtain ⟨bs, r2⟩ := Dp.reads I (.list ds) y u he ry
  refine SeqAt.in_list_reads r2 r1 (SeqAt.canLay_of_shaped se) (SeqAt.canLay_of_shaped sd) ?_ ⟨.bl _, H, I, rfl, q⟩
  have := Nat.min_le_right (PyData.depthAll ds) d.depth
  omega
theorem isiK (hK : X.K = K := by rfl) : CallR X (.builtin "isinstance") (rIsi K) := hK ▸ call_isi
end
section
variable {K : PySem.W.Frag} {H H' : Hp} {Q : VK} {x : V} {T t : String} {r : Bool}
theorem r_isi (ty : TyX K H x (.type t)) (e : kitB t T = some r) (q : Q (.bl r) H) : rIsi K [x, .ty T] H Q := ⟨x, .ty T, .type t, .type T, r, rfl, .ty T, ty, kit_ty e, q⟩
theorem tyx_list {a : Addr} {xs : List V} (h : SqL K H a xs) : TyX K H (.ref a) (.type "list") := by
  rcases h with (h | ⟨o, h⟩) | ⟨o, its, n, h, c, _⟩
  · exact .base (.lst h)
  · exact .base (.frz h)
  · exact .kList h c
theorem tyx_tup {a : Addr} {xs : List V} (h : SqT K H a xs) : TyX K H (.ref a) (.type "tuple") := by
  rcases h with (h | ⟨o, h⟩) | ⟨o, its, n, h, c, _⟩
  · exact .base (.tup h)
  · exact .fTuple h
  · exact .kTuple h c
theorem r_isN {A : Prop} (q : A) : V.non = V.non ∧ A := ⟨rfl, q⟩
theorem r_neB {a b : Bool} (q : Q (.bl (!decide (a = b))) H) : rNe (.bl a) (.bl b) H Q := by
  refine ⟨rfl, ?_⟩
  have e : decide (V.bl a = V.bl b) = decide (a = b) := by
    by_cases h : a = b
    · subst h; simp
    · rw [decide_eq_false h, decide_eq_false]; intro z; cases z; exact h rfl
  rw [e]; exact q
theorem r_eqB {a b : Bool} (q : Q (.bl (decide (a = b))) H) : rEq (.bl a) (.bl b) H Q := by
  refine ⟨rfl, ?_⟩
  have e : decide (V.bl a = V.bl b) = decide (a = b) := by
    by_cases h : a = b
    · subst h; simp
    · rw [decide_eq_false h, decide_eq_false]; intro z; cases z; exact h rfl
  rw [e]; exact q
theorem r_iRev {tA : TA} {σ : L2.St} {R : L2.It → Hp → Prop} (h : tA σ H fun vs H1 => ∃ a xs, vs = [.ref a] ∧ SqL K H1 a xs ∧ R (Itv K a xs.length) H1) : iRev K tA σ H R := h
theorem r_insert {l : Addr} {xs : List V} {i : Int} {y : V} (h : H l = some (.lst xs)) (hz : xs.length < sizeLine) (h0 : 0 ≤ i) (h1 : i < 2 ^ 63) (q : Q .non (upd H l (.lst (xs.take i.toNat ++ [y] ++ xs.drop i.toNat)))) :
    ∃ (l' : Addr) (xs : List V) (i' : Int) (y' : V), V.ref l = .ref l' ∧ [V.int i, y] = [.int i', y'] ∧ H l' = some (.lst xs) ∧ xs.length < sizeLine ∧ 0 ≤ i' ∧ i' < 2 ^ 63 ∧ Q .non (upd H l' (.lst (xs.take i'.toNat ++ [y'] ++ xs.drop i'.toNat))) := ⟨l, xs, i, y, rfl, rfl, h, hz, h0, h1, q⟩
theorem r_all {a : Addr} {bs : List Bool} (h : SqL K H a (bs.map V.bl)) (q : Q (.bl (bs.all id)) H) : rAll K [.ref a] H Q := ⟨a, bs, rfl, h, q⟩
theorem inv_ints (x : Int) (l : List Int) : inV (.int x) (l.map V.int) = decide (x ∈ l) := by
  unfold inV
  rw [List.any_map]
  by_cases hm : x ∈ l
  · rw [decide_eq_true hm, List.any_eq_true]
    exact ⟨_, hm, by show (_ == _) = true; simp⟩
  · rw [decide_eq_false hm, List.any_eq_false]
    intro y hy
    show ¬ (y == x) = true
    intro e
    exact hm (eq_of_beq e ▸ hy)
theorem r_gunl {gs : TGs} {σ : L2.St} {Qs : L2.St → Hp → Prop} {p : Addr} {xs : List V} {n : Nat} (h : SqL K H p xs) (hl : xs.length = n) (q : gs xs σ H Qs) : gUnl K n gs (.ref p) σ H Qs := ⟨p, xs, rfl, h, hl, q⟩
theorem r_lenT {p : Addr} {xs : List V} (h : SqT K H p xs) (q : Q (.int xs.length) H) : Xk.rLen K [.ref p] H Q := ⟨p, xs, rfl, .inr h, q⟩
theorem pow5 {i : Int} {n : Nat} {j : Int} (h : i.natAbs < 2 ^ n) (h0 : 0 ≤ j) (hj : j ≤ 5) (hn : n ≤ 20000000) : CPowW i j := by
  refine ⟨h0, ?_⟩
  have h1 := bits_le h
  have : (Builtin.Int.intBits i : Int) * j ≤ 20000000 * 5 := by
    refine Int.mul_le_mul ?_ hj h0 (by omega)
    omega
  refine Int.le_trans this (by decide)
theorem r_par3 {tA : TA} {σ : L2.St} {nx bk ct : L2.St → Hp → Prop} {rt : VK} {i j l : Nat} (h : tA σ H fun vs H1 => ∃ x y z, vs = [x, y, z] ∧ nx (((σ.set i (some x)).set j (some y)).set l (some z)) H1) : tPar3 i j l tA ⟨nx, rt, bk, ct⟩ σ H := h
theorem r_ex3 {f : V → V → V → Prop} {x y z : V} (h : f x y z) : ∃ u v w, [x, y, z] = [u, v, w] ∧ f u v w := ⟨x, y, z, rfl, h⟩
theorem r_ixQL {p : Addr} {xs : List V} {i : Int} {v : V} (h : SqL K H p xs) (ha : atI xs i = some v) (q : Q v H) : rIx K (.ref p) (.int i) H Q := .inl ⟨p, xs, i, v, rfl, rfl, h, ha, q⟩
theorem r_ixQT {p : Addr} {xs : List V} {i : Int} {v : V} (h : SqT K H p xs) (ha : atI xs i = some v) (q : Q v H) : rIx K (.ref p) (.int i) H Q := .inr (.inl ⟨p, xs, i, v, rfl, rfl, h, ha, q⟩)
theorem r_reverse {p : Addr} {xs : List V} (h : H p = some (.lst xs)) (q : Q .non (upd H p (.lst xs.reverse))) : rReverse (.ref p) [] H Q := ⟨p, xs, rfl, rfl, h, q⟩
theorem r_extend {p b : Addr} {xs zs : List V} (h : H p = some (.lst xs)) (g : H b = some (.lst zs)) (hz : xs.length + zs.length ≤ sizeLine) (q : Q .non (upd H p (.lst (xs ++ zs)))) : rExtend (.ref p) [.ref b] H Q := ⟨p, b, xs, zs, rfl, rfl, h, g, hz, q⟩
theorem r_cat {p b : Addr} {xs ys : List V} (h : H p = some (.lst xs)) (g : H b = some (.lst ys)) (hz : xs.length + ys.length ≤ sizeLine) (q : ∀ n, H n = none → Q (.ref n) (upd H n (.lst (xs ++ ys)))) : rCat (.ref p) (.ref b) H Q := ⟨p, b, xs, ys, rfl, rfl, h, g, hz, q⟩
theorem cut_any {xs : List V} {z y : Int} {a b : Nat} (h : z = (a : Int)) (g : y = (b : Int)) : cutV xs (some z) (some y) = (xs.drop a).take (b - a) := by
  subst h; subst g
  unfold cutV
  rw [show HT.sIx xs.length 0 (some (a : Int)) = min a xs.length from HT.sIx_nat xs.length 0 a, show HT.sIx xs.length xs.length (some (b : Int)) = min b xs.length from HT.sIx_nat xs.length xs.length b]
  by_cases q : a ≤ xs.length
  · rw [Nat.min_eq_left q]
    by_cases q2 : b ≤ xs.length
    · rw [Nat.min_eq_left q2]
    · rw [Nat.min_eq_right (by omega), List.take_of_length_le (by rw [List.length_drop]; omega), List.take_of_length_le (by rw [List.length_drop]; omega)]
  · rw [Nat.min_eq_right (show xs.length ≤ a by omega), List.drop_of_length_le (Nat.le_refl _), List.drop_of_length_le (show xs.length ≤ a by omega)]; simp
/-! ### data kept -/
theorem sqT_same {a : Addr} {xs : List V} (s : Same H H') (h : SqT K H a xs) : SqT K H' a xs := by
  rcases h with (h | ⟨o, h⟩) | h
  · exact .inl (.inl (s _ _ h))
  · exact .inl (.inr ⟨o, s _ _ h⟩)
  · exact .inr h
mutual
theorem dp_same (s : Same H H') : ∀ (d : PyData) (v : V), Dp K H v d → Dp K H' v d
  | .none, _, h => by cases h; exact .non
  | .bool b, _, h => by cases h; exact .bl b
  | .int i, _, h => by cases h; exact .int i
  | .str y, _, h => by cases h; exact .str y
  | .list ds, _, h => by
    cases h with
    | lst e a => exact .lst (s.seq e) (dp_sameAll s ds _ a)
  | .tuple ds, _, h => by
    cases h with
    | tup e a => exact .tup (sqT_same s e) (dp_sameAll s ds _ a)
  | .dict _, _, h => by cases h
theorem dp_sameAll (s : Same H H') : ∀ (ds : List PyData) (vs : List V), DpAll K H vs ds → DpAll K H' vs ds
  | [], _, h => by cases h; exact .nil
  | d :: ds, _, h => by
    cases h with
    | cons a b => exact .cons (dp_same s d _ a) (dp_sameAll s ds _ b)
end
theorem dpall_len : ∀ {vs : List V} {ds : List PyData}, DpAll K H vs ds → vs.length = ds.length
  | _, _, .nil => rfl
  | _, _, .cons _ b => congrArg (· + 1) (dpall_len b)
theorem dpall_at : ∀ {vs : List V} {ds : List PyData} (h : DpAll K H vs ds) (i : Nat) (hi : i < ds.length), ∃ v, vs[i]? = some v ∧ Dp K H v ds[i]
  | _, _, .cons a b, 0, _ => ⟨_, rfl, a⟩
  | _, _, .cons a b, i + 1, hi => dpall_at b i (Nat.lt_of_succ_lt_succ hi)
theorem depth_at : ∀ {ds : List PyData} {i : Nat} (hi : i < ds.length), ds[i].depth ≤ PyData.depthAll ds
  | d :: ds, 0, _ => Nat.le_max_left _ _
  | d :: ds, i + 1, hi => Nat.le_trans (depth_at (ds := ds) (Nat.lt_of_succ_lt_succ hi)) (Nat.le_max_right _ _)
end
end Xk

set_option Elab.async false
set_option linter.all false
set_option maxRecDepth 100000
namespace Xk
open PySem PySem.Spec PyProof.Rows L2 GenW
/-! ### for in a generator -/
section
variable {M : Model} {A : Around} {R : GenEnd} {Y : Protocol} {n : Nat} {s₀ : Shared} {c : Code} {fs : List Frame} {s : Shared} {env : Env}
  {K : Flow → Sem PySem.Fin} {H : Value → Sem PySem.Fin} {gd : Bool → Bool} {lv : List Value → List Value}
theorem seg_For {target iter : Expr} {body orelse : List Stmt} {pos : Pos} (hs : ∀ x, foldedSetIterable iter env x = pure x)
    (h : wpAny M (A.over c fs) (eval iter env) (fun x s₁ => wpAny M (A.over c fs) (pyIter x) (fun it s₂ =>
      ∀ p, Seg M A R Y n s₀ (.forLoop target it body orelse env) (M.den (.forLoop target it body orelse env))
      (.ret (fun r => ((match r with | .ok f => (.pure f : Sem Flow) | .error e => .raise e).onRaise (cameBack env)).wrap K H gd lv) none (gd false) (lv []) c p [] :: fs) s₂)
      (fun x s' => Seg M A R Y n s₀ c (H x) fs s') s₁) (fun x s' => Seg M A R Y n s₀ c (H x) fs s') s) :
    Seg M A R Y n s₀ c ((exec (.For target iter body orelse pos) env).wrap K H gd lv) fs s := by
  rw [exec_For]
  simp only [hs]
  rw [Sem.bind_eq_wrap', Sem.wrap_wrap]
  refine seg_wrap (wpAny_standAt ?_)
  rw [Sem.bind_eq_wrap', Sem.wrap_wrap]
  refine seg_wrap (wpAny_mono h (fun x s₁ h₁ => ?_) fun _ _ z => z)
  show Seg M A R Y n s₀ c (Sem.wrap K H gd lv (standAt iter.pos >>= fun _ => holding [x] (pyIter x) >>= fun it => runOwn (.forLoop target it body orelse env) env)) fs s₁
  rw [Sem.bind_eq_wrap', Sem.wrap_wrap]
  refine seg_wrap (wpAny_standAt ?_)
  rw [Sem.bind_eq_wrap', Sem.wrap_wrap]
  refine seg_wrap (wpAny_holding (wpAny_mono h₁ (fun it s₂ h₂ => ?_) fun _ _ z => z))
  exact seg_call h₂
end
section
variable {prog : Program} {w : World} {A : Around} {R : GenEnd} {Y : Protocol} {n : Nat} {s₀ : Shared} {fs : List Frame} {s : Shared} {env : Env}
/-- one turn: a next item, or the end -/
theorem seg_forLoop {target : Expr} {it : Value} {body : List Stmt}
    (h : wpAny (model prog w) (A.over (.forLoop target it body [] env) fs) (pyNext it) (fun r s' => match r with
      | none => Seg (model prog w) A R Y n s₀ (.forLoop target it body [] env) (.pure (.again (.block [] env))) fs s'
      | some v => wpAny (model prog w) (A.over (.forLoop target it body [] env) fs) (letOwnedTupleGo target it v) (fun _ s1 =>
          wpAny (model prog w) (A.over (.forLoop target it body [] env) fs) (assign target env v) (fun _ s2 =>
            Seg (model prog w) A R Y n s₀ (.forLoop target it body [] env) ((execs body env).wrap (fun f => match f with
              | .next | .cont => .pure (.again (.forLoop target it body [] env))
              | .brk => .pure (.done .next)
              | .ret v => .pure (.done (.ret v))) (fun e => (do noteFrame e env; theTreesLotGoes e : Sem Unit).wrap (fun _ => .raise e) .raise id id) id id) fs s2) (fun _ _ => False) s1) (fun _ _ => False) s')
      (fun _ _ => False) s) :
    Seg (model prog w) A R Y n s₀ (.forLoop target it body [] env) ((model prog w).den (.forLoop target it body [] env)) fs s := by
  show Seg _ A R Y n s₀ _ ((forTurn target it body [] env).onRaise (fun x => do noteFrame x env; theTreesLotGoes x)) fs s
  unfold forTurn
  rw [Sem.onRaise_eq_wrap, Sem.bind_eq_wrap', Sem.wrap_wrap]
  refine seg_wrap (wpAny_standAt ?_)
  rw [Sem.bind_eq_wrap', Sem.wrap_wrap]
  refine seg_wrap (wpAny_onRaise (wpAny_mono h (fun r s' hr => ?_) fun _ _ z => z.elim))
  cases r with
  | none => exact hr
  | some v =>
    show Seg _ A R Y n s₀ _ (Sem.wrap _ _ _ _ (letOwnedTupleGo target it v >>= _)) fs s'
    rw [Sem.bind_eq_wrap', Sem.wrap_wrap]
    refine seg_wrap (wpAny_mono hr (fun _ s1 h1 => ?_) fun _ _ z => z.elim)
    rw [Sem.bind_eq_wrap', Sem.wrap_wrap]
    refine seg_wrap (wpAny_mono h1 (fun _ s2 h2 => ?_) fun _ _ z => z.elim)
    rw [Sem.bind_eq_wrap', Sem.wrap_wrap]
    rw [Sem.wrap_congr (execs body env) _ _ (K' := fun f => match f with
          | .next | .cont => .pure (.again (.forLoop target it body [] env))
          | .brk => .pure (.done .next)
          | .ret v => .pure (.done (.ret v))) (H' := (fun e => (do noteFrame e env; theTreesLotGoes e : Sem Unit).wrap (fun _ => .raise e) .raise id id))
      (fun f => by cases f <;> rfl)
      (fun e => by first | exact Sem.bind_eq_wrap _ _ | (show (do noteFrame e env; theTreesLotGoes e : Sem Unit).bind (fun _ => .raise e) = _; rw [Sem.bind_eq_wrap]))]
    exact h2
theorem seg_block0 {c : Code} {p : Pos} {l kp : List Value} {k : Result → Sem PySem.Fin} {g : Bool}
    (h : Seg (model prog w) A R Y n s₀ c (k (.ok .next)) fs s) :
    Seg (model prog w) A R Y n s₀ (.block [] env) ((model prog w).den (.block [] env)) (.ret k none g l c p kp :: fs) s := by
  show Seg _ A R Y n s₀ _ (leafOf (.ok .next)) _ s
  exact seg_leaf (.ok .next) h
end
/-- a for whose turns may hand out: as tFor, ys is out so far -/
def tGFor (wi : TI) (g : TG) (tb : TGn) : TGn := fun D ys σ H => wi σ H fun J H1 => ∃ W : Nat → Nat → List V → L2.St → Hp → Prop, (∃ m, W 0 m ys σ H1) ∧ ∀ i m ys σ H, W i m ys σ H →
  (J.stop i H ∧ D.nx ys σ H) ∨ (J.go i H ∧ ∃ N : List V → L2.St → Hp → Prop, (∀ ys' σ' H', N ys' σ' H' → ∃ m', m' < m ∧ W (i + 1) m' ys' σ' H') ∧ ∀ x H', J.yld i H x H' → g x σ H' fun σ2 H2 => tb { D with nx := N, ct := N, bk := D.nx } ys σ2 H2)
section
variable {X : Cx}
theorem gs_for {tg iter : Expr} {body : List Stmt} {wi : TI} {g : TG} {tb : TGn} {pos : Pos} (hno : ∀ e s', X.xe e s' → False) (hc : X.calm = true) (hi : PI X tg iter wi) (hg : PG X tg g) (hb : GSs X body tb)
    (hs : ∀ x, foldedSetIterable iter X.env x = pure x := by intro _; rfl) : GS X (.For tg iter body [] pos) (tGFor wi g tb) := by
  refine ⟨fun A S ip R n ys s₀ c fs K J gd lv s σ H D gc hn k hI ht => ?_⟩
  obtain ⟨acc, cc, r, I⟩ := hI
  refine seg_For hs ?_
  rw [gc.over]
  refine wpAny_mono (hi.run _ s σ H _ I ht) (fun v s1 h1 => wpAny_mono h1 (fun itv s2 h2 => ?_) fun x s' hx => (hno x s' hx).elim) fun x s' hx => (hno x s' hx).elim
  obtain ⟨it, fp, tn, J', H2, e, I2, T, st2, f2, W, ⟨m0, w0⟩, turn⟩ := h2
  subst e
  have hfS : ∀ b ∈ fp, S ≠ b := fun b hb => (f2 b hb).2.2.2.2.2 (S, lstObj acc cc) (List.mem_append_right _ List.mem_cons_self)
  have stat : ∀ {H' : Hp} {acc' : Array Value} {c' : Nat}, (∀ b ∈ fp, H' b = none) → ∀ b ∈ fp, FpOk X ((S, lstObj acc' c') :: ip) H' b := fun hn b hb => ⟨hn b hb, (f2 b hb).2.1, (f2 b hb).2.2.1, (f2 b hb).2.2.2.1, (f2 b hb).2.2.2.2.1, fun p hp => by
      rcases List.mem_append.mp hp with z | z
      · exact (f2 b hb).2.2.2.2.2 p (List.mem_append_left _ z)
      · rcases List.mem_cons.mp z with z | z
        · rw [z]; exact hfS b hb
        · exact (f2 b hb).2.2.2.2.2 p (List.mem_append_right _ (List.mem_cons_of_mem _ z))⟩
  intro p
  have gl := fun (kk : Result → Sem PySem.Fin) => gc_loop (k := kk) (c' := .forLoop tg (.ref it) body [] X.env) (l := lv []) (kp := []) (p := p) gc rfl rfl
  have loop : ∀ (m i n : Nat) (ys : List V) (s₀ s : Shared) (σ : L2.St) (H : Hp), n + ys.length = sizeLine → W i m ys σ H → GI X S ip ys σ H s → tn i s.heap → (∀ b ∈ fp, H b = none) →
      Seg (model X.prog X.w) A R (GY X S) n s₀ (.forLoop tg (.ref it) body [] X.env) ((model X.prog X.w).den (.forLoop tg (.ref it) body [] X.env))
        (.ret (fun r => ((match r with | .ok f => (.pure f : Sem Flow) | .error e => .raise e).onRaise (cameBack X.env)).wrap K J gd lv) none (gd false) (lv []) c p [] :: fs) s := by
    intro m
    induction m using Nat.strongRecOn with
    | ind m ih =>
      intro i n ys s₀ s3 σ3 H3 hn w hI st3 fr3
      refine seg_forLoop ?_
      rw [(gl _).over]
      obtain ⟨acc, cc, r, I⟩ := hI
      rcases turn i m ys σ3 H3 w with ⟨stop, qn⟩ | ⟨go, N, hN, step⟩
      · refine wpAny_mono (T.done X rfl rfl rfl hc i _ s3 σ3 H3 (fun _ _ => False) I (stat fr3) st3 stop) (fun r' s4 hr4 => ?_) fun _ _ z => z
        obtain ⟨hr, I4⟩ := hr4
        subst hr
        exact seg_again rfl (seg_block0 (k.ok n ys s₀ s4 .next hn ⟨σ3, H3, ⟨acc, cc, r, I4⟩, qn⟩))
      · refine wpAny_mono (T.item X rfl rfl rfl hc i _ s3 σ3 H3 (fun _ _ => False) I (stat fr3) st3 go) (fun r' s4 hr4 => ?_) fun _ _ z => z
        obtain ⟨u, hr, h4⟩ := hr4
        subst hr
        refine wpAny_mono h4 (fun _ s5 h5 => ?_) fun _ _ z => z
        obtain ⟨x, H5, I5, r5, y5, st5, fr5⟩ := h5
        have I5' := I5.pinned (stat fr5) (T.obj _ _ st5)
        refine wpAny_mono (hg.run _ s5 σ3 H5 x u _ I5' r5 (step x H5 y5)) (fun _ s6 h6 => ?_) fun x s' hx => hno x s' hx
        obtain ⟨σ6, H6, I6, q6⟩ := h6
        have g1 := gl (fun r => ((match r with | .ok f => (.pure f : Sem Flow) | .error e => .raise e).onRaise (cameBack X.env)).wrap K J gd lv)
        have gl' : GC X S (ip ++ pinsAt fp s5.heap) A (.forLoop tg (.ref it) body [] X.env) (.ret (fun r => ((match r with | .ok f => (.pure f : Sem Flow) | .error e => .raise e).onRaise (cameBack X.env)).wrap K J gd lv) none (gd false) (lv []) c p [] :: fs) id :=
          { pn := g1.pn, apart := g1.apart, over := g1.over, split := g1.split, guard := g1.guard, gd := rfl,
            ip := fun q hq => (List.mem_append.mp hq).elim (gc.ip q) fun z => Ne.symm (hfS q.1 (of_pinsAt z).1) }
        have back : ∀ {ys' : List V} {σ7 : L2.St} {H7 : Hp} {s7 : Shared}, GI X S (ip ++ pinsAt fp s5.heap) ys' σ7 H7 s7 → GI X S ip ys' σ7 H7 s7 ∧ tn (i + 1) s7.heap ∧ ∀ b ∈ fp, H7 b = none := fun {ys' σ7 H7 s7} hI7 => by
          obtain ⟨a7, c7, r7, J7⟩ := hI7
          refine ⟨⟨a7, c7, r7, J7.pins_of fun q hq => J7.pin q (List.mem_append_right _ ?_)⟩, T.keep _ _ _ st5 fun b hb o e => (J7.pin (b, o) (List.mem_append_right _ (List.mem_cons_of_mem _ (List.mem_append_right _ (mem_pinsAt hb e))))).1, fun b hb => ?_⟩
          · rcases List.mem_cons.mp hq with z | z
            · rw [z]; exact List.mem_cons_self
            · exact List.mem_cons_of_mem _ (List.mem_append_left _ z)
          · obtain ⟨o, e, d⟩ := T.obj _ _ st5 b hb
            exact (J7.pin (b, o) (List.mem_append_right _ (List.mem_cons_of_mem _ (List.mem_append_right _ (mem_pinsAt hb e))))).2.1
        refine hb.run A S (ip ++ pinsAt fp s5.heap) R n ys s₀ _ _ _ _ id id s6 σ6 H6 { D with nx := N, ct := N, bk := D.nx } gl' hn ⟨fun n' ys' s₀' s7 f hn' hs => ?_, fun n' s₀' x s3 hx => (hno x s3 hx).elim⟩ ⟨acc, cc, r, I6⟩ q6
        cases f with
        | next =>
          obtain ⟨σ7, H7, I7, n7⟩ := hs
          obtain ⟨m', hm, w7⟩ := hN ys' σ7 H7 n7
          obtain ⟨b1, b2, b3⟩ := back I7
          exact seg_again rfl (ih m' hm (i + 1) n' ys' s₀' s7 σ7 H7 hn' w7 b1 b2 b3)
        | cont =>
          obtain ⟨σ7, H7, I7, n7⟩ := hs
          obtain ⟨m', hm, w7⟩ := hN ys' σ7 H7 n7
          obtain ⟨b1, b2, b3⟩ := back I7
          exact seg_again rfl (ih m' hm (i + 1) n' ys' s₀' s7 σ7 H7 hn' w7 b1 b2 b3)
        | brk =>
          obtain ⟨σ7, H7, I7, q7⟩ := hs
          exact seg_leaf (.ok .next) (k.ok n' ys' s₀' s7 .next hn' ⟨σ7, H7, (back I7).1, q7⟩)
        | ret v =>
          obtain ⟨x7, σ7, H7, I7, r7, q7⟩ := hs
          exact seg_leaf (.ok (.ret v)) (k.ok n' ys' s₀' s7 (.ret v) hn' ⟨x7, σ7, H7, (back I7).1, r7, q7⟩)
  exact loop m0 0 n ys s₀ s2 σ H2 hn w0 ⟨acc, cc, r, I2⟩ st2 fun b hb => (f2 b hb).1
end
/-! ### no exception leaves; a generator def by its body -/
section
variable {X : Cx} {S : Addr} {ip : List (Addr × Obj)} {ys : List V} {σ : L2.St} {H : Hp} {s : Shared} {E : Value → Shared → Prop} {D : GEnds} {f : Flow}
theorem gi_wish (h : GI X S ip ys σ H s) : GI (X.wish E) S ip ys σ H s := match h with | ⟨a, c, r, I⟩ => ⟨a, c, r, I.wish E⟩
theorem gi_unwish (h : GI (X.wish E) S ip ys σ H s) : GI X S ip ys σ H s := match h with | ⟨a, c, r, I⟩ => ⟨a, c, r, I.unwish⟩
theorem gsp_unwish (h : GSP (X.wish E) S ip D ys f s) : GSP X S ip D ys f s := by
  cases f with
  | next => obtain ⟨a, b, h1, h2⟩ := h; exact ⟨a, b, gi_unwish h1, h2⟩
  | brk => obtain ⟨a, b, h1, h2⟩ := h; exact ⟨a, b, gi_unwish h1, h2⟩
  | cont => obtain ⟨a, b, h1, h2⟩ := h; exact ⟨a, b, gi_unwish h1, h2⟩
  | ret u => obtain ⟨v, a, b, h1, h2⟩ := h; exact ⟨v, a, b, gi_unwish h1, h2⟩
theorem gss_nox {st : List Stmt} {t : TGn} (h : GSs X.nox st t) : GSs X st t := by
  refine ⟨fun A S ip R n ys s₀ c fs K J gd lv s σ H D g hn k hI ht => ?_⟩
  refine seg_imp (R := R) (Y := GY X.nox S) (fun _ _ _ _ z => z) (fun n s₀ v s kap kap' hkk hy => ?_) n (h.run A S ip R n ys s₀ c fs K J gd lv s σ H D ⟨g.pn, g.ip, g.apart, g.over, g.split, g.guard, g.gd⟩ hn ⟨fun n' ys' s₀' s' f hn' hs => ?_, fun _ _ _ _ z => z.elim⟩ (gi_wish hI) ht)
  · obtain ⟨ys, x, ip, σ, H, h1, h2, h3, h4⟩ := hy
    exact ⟨ys, x, ip, σ, H, h1, h2, gi_unwish h3, fun s' z => hkk _ _ (h4 s' z)⟩
  · refine seg_imp (R := R) (Y := GY X S) (fun _ _ _ _ z => z) (fun n s₀ v s kap kap' hkk hy => ?_) n' (k.ok n' ys' s₀' s' f hn' (gsp_unwish hs))
    obtain ⟨ys, x, ip, σ, H, h1, h2, h3, h4⟩ := hy
    exact ⟨ys, x, ip, σ, H, h1, h2, gi_wish h3, fun s' z => hkk _ _ (h4 s' z)⟩
end
section
variable {P : Program} {w : World} {K : PySem.W.Frag} {mg : Str → Option Value} {base : Heap}
theorem okGen {x qual : Str} {st : Stmt} {f : Addr} {fd : FuncData} {N ps : List Str} {k : Nat} {sp : SpG} (F : Fun K x qual st f fd) (S : GScope N ps (defScope st)) (cnt : ∀ vs H Q E, sp vs H Q E → vs.length = ps.length)
    (body : ∀ (cdv : Value) (A : Around) (ou : List Env) (t : Shared) (H : Hp) (vs : List V) (Q : List V → Hp → Prop) (E : XK) (pn : List (Addr × Obj)), Room k (A.deeper (envOfC qual (defScope st) t.heap.objs.size f cdv)) → sp vs H Q E →
      ∃ r, GSs (gcxOf P w K mg base N qual (defScope st) f cdv A ou t H E pn).nox (defBody st) r ∧ r ⟨fun ys _ H' => Q ys H', fun ys v H' => v = .non ∧ Q ys H', fun _ _ _ => False, fun _ _ _ => False⟩ [] (L2.start N vs) H) :
    GFn P w K mg base (k + 1) f fd ps sp := by
  obtain ⟨oc, od, kV, doc, pm, an, cdv, ct, osl, rfl, lk, hcd⟩ := F.ex
  refine gfn_of lk hcd S cnt fun A ou t H vs Q E pn hr hsp => ?_
  obtain ⟨r, h, q⟩ := body cdv A ou t H vs Q E pn hr hsp
  exact ⟨r, gss_nox h, q⟩
end
section
variable {X : Cx}
theorem passG {X : Cx} : Passes (CX X.prog X.w) X (fun _ _ _ => False) := fun pins σ H s e s' _ h => by
  obtain ⟨_, _, _, _, _, _, _, _, _, _, _, _, z⟩ := h
  exact z.elim
theorem noStop0 {K : PySem.W.Frag} : NoStop K (fun _ _ _ => False) := fun _ _ _ z => z.elim
theorem r_gone {D : GEnds} {ys : List V} {σ : L2.St} {H : Hp} {t u : TGn} (h : t ⟨fun ys' σ' H' => u D ys' σ' H', D.rt, D.bk, D.ct⟩ ys σ H) : tGThen t u D ys σ H := h
theorem r_gplain {D : GEnds} {ys : List V} {σ : L2.St} {H : Hp} {t : TS} (h : t ⟨D.nx ys, D.rt ys, D.bk ys, D.ct ys⟩ σ H) : tPlain t D ys σ H := h
theorem r_gyield {D : GEnds} {ys : List V} {σ : L2.St} {H : Hp} {te : TE} (hy : ys.length < sizeLine) (h : te σ H fun x H1 => D.nx (ys ++ [x]) σ H1) : tGYield te D ys σ H := ⟨hy, h⟩
theorem r_g0 {D : GEnds} {ys : List V} {σ : L2.St} {H : Hp} (h : D.nx ys σ H) : tG0 D ys σ H := h
theorem r_gfor {wi : TI} {g : TG} {tb : TGn} {D : GEnds} {ys : List V} {σ : L2.St} {H : Hp} (h : wi σ H fun J H1 => ∃ W : Nat → Nat → List V → L2.St → Hp → Prop, (∃ m, W 0 m ys σ H1) ∧ ∀ i m ys σ H, W i m ys σ H →
  (J.stop i H ∧ D.nx ys σ H) ∨ (J.go i H ∧ ∃ N : List V → L2.St → Hp → Prop, (∀ ys' σ' H', N ys' σ' H' → ∃ m', m' < m ∧ W (i + 1) m' ys' σ' H') ∧ ∀ x H', J.yld i H x H' → g x σ H' fun σ2 H2 => tb ⟨N, D.rt, D.nx, N⟩ ys σ2 H2)) : tGFor wi g tb D ys σ H := h
/-- a generator's turns over what is walked -/
theorem gforI {J : It} {n : Nat} {G : Hp → Prop} {Y : Nat → Hp → V → Hp → Prop} (w : Walk J n G Y) {g : TG} {tb : TGn} {nx : List V → L2.St → Hp → Prop} {rt : List V → VK} {ys : List V} {σ : L2.St} {H : Hp} (Pv : Nat → List V → L2.St → Hp → Prop) (h0 : Pv 0 ys σ H) (hG : ∀ i ys σ H, i ≤ n → Pv i ys σ H → G H)
    (hs : ∀ i x ys σ H H', i < n → Pv i ys σ H → Y i H x H' → g x σ H' fun σ2 H2 => tb ⟨Pv (i + 1), rt, nx, Pv (i + 1)⟩ ys σ2 H2) (hd : ∀ ys σ H, Pv n ys σ H → nx ys σ H) :
    ∃ W : Nat → Nat → List V → L2.St → Hp → Prop, (∃ m, W 0 m ys σ H) ∧ ∀ i m ys σ H, W i m ys σ H →
      (J.stop i H ∧ nx ys σ H) ∨ (J.go i H ∧ ∃ N : List V → L2.St → Hp → Prop, (∀ ys' σ' H', N ys' σ' H' → ∃ m', m' < m ∧ W (i + 1) m' ys' σ' H') ∧ ∀ x H', J.yld i H x H' → g x σ H' fun σ2 H2 => tb ⟨N, rt, nx, N⟩ ys σ2 H2) := by
  refine ⟨fun i m ys σ H => i + m = n ∧ Pv i ys σ H, ⟨n, Nat.zero_add n, h0⟩, fun i m ys σ H ⟨e, p⟩ => ?_⟩
  cases m with
  | zero =>
    have e' : i = n := e
    subst e'
    exact .inl ⟨w.stops _ (hG _ ys σ H (Nat.le_refl _) p), hd _ _ _ p⟩
  | succ m =>
    refine .inr ⟨w.goes i H (by omega) (hG i ys σ H (by omega) p), Pv (i + 1), fun ys' σ' H' q => ⟨m, Nat.lt_succ_self m, by omega, q⟩, fun x H' y => ?_⟩
    exact hs i x ys σ H H' (by omega) p (w.yields i H x H' (by omega) (hG i ys σ H (by omega) p) y)
theorem gforA {J : It} {G : Hp → Prop} {xs : List V} (w : Walk J xs.length G (YAt xs)) {g : TG} {tb : TGn} {nx : List V → L2.St → Hp → Prop} {rt : List V → VK} {ys : List V} {σ : L2.St} {H : Hp} (Pv : Nat → List V → L2.St → Hp → Prop) (h0 : Pv 0 ys σ H) (hG : ∀ i ys σ H, i ≤ xs.length → Pv i ys σ H → G H)
    (hs : ∀ i ys σ H (hi : i < xs.length), Pv i ys σ H → g xs[i] σ H fun σ2 H2 => tb ⟨Pv (i + 1), rt, nx, Pv (i + 1)⟩ ys σ2 H2) (hd : ∀ ys σ H, Pv xs.length ys σ H → nx ys σ H) :
    ∃ W : Nat → Nat → List V → L2.St → Hp → Prop, (∃ m, W 0 m ys σ H) ∧ ∀ i m ys σ H, W i m ys σ H →
      (J.stop i H ∧ nx ys σ H) ∨ (J.go i H ∧ ∃ N : List V → L2.St → Hp → Prop, (∀ ys' σ' H', N ys' σ' H' → ∃ m', m' < m ∧ W (i + 1) m' ys' σ' H') ∧ ∀ x H', J.yld i H x H' → g x σ H' fun σ2 H2 => tb ⟨N, rt, nx, N⟩ ys σ2 H2) :=
  gforI w Pv h0 hG (fun i x ys σ H H' hi p y => by
    obtain ⟨rfl, e⟩ := y
    rw [List.getElem?_eq_getElem hi] at e
    cases e
    exact hs i ys σ H' hi p) hd
end
end Xk
local macro_rules | `(tactic| fail "one") => `(tactic| with_reducible first
  | refine Xk.r_gone ?_ | refine Xk.r_gplain ?_ | refine Xk.r_g0 ?_ | refine Xk.r_gfor ?_)

set_option Elab.async false
set_option linter.all false
set_option maxRecDepth 100000
namespace Xk
open PySem PySem.Spec PyProof.Rows L2 GenW
theorem zipNoLen : typeLookup (.type "zip") "__len__" = pure none := by rw [typeLookup_type, builtinLookup_eq_fast]; kernel_rfl
theorem zipNoHint : typeLookup (.type "zip") "__length_hint__" = pure none := by rw [typeLookup_type, builtinLookup_eq_fast]; kernel_rfl
/-- a zip of two lists amid its turns, the pairs that it gave out being kept (in S) -/
def ZSt (z TI TO i1 i2 l1 l2 S : Addr) (xs ys : Array Value) (i : Nat) (h : Heap) : Prop :=
  IsPair h TI (.ref i1) (.ref i2) ∧ h.IsListIter i1 l1 i ∧ h.IsListIter i2 l2 i ∧ h.IsList l1 xs ∧ h.IsList l2 ys ∧
    ((IsZip h z TI TO .none ∧ ∃ a b, IsPair h TO a b) ∨ ∃ T f oT, IsZipHeld h z TI TO T f ∧ h.get? T = some oT ∧ T ≠ z ∧ T ≠ i1 ∧ T ≠ i2 ∧ T ≠ S ∧ ∃ oo, h.get? TO = some oo)
section
variable {X : Cx} {A : Around} {z TI TO i1 i2 l1 l2 S : Addr} {xs ys : Array Value} {vx vy : List V} {pins : List (Addr × Obj)} {σ : L2.St} {H0 : Hp} {R : Result → Shared → Prop} {res : Value}
structure ZOff (z TI TO i1 i2 l1 l2 S : Addr) : Prop where
  z : S ≠ z
  TI : S ≠ TI
  TO : S ≠ TO
  i1 : S ≠ i1
  i2 : S ≠ i2
  l1 : S ≠ l1
  l2 : S ≠ l2
/-- the pairs' tuples -/
structure Prs (H0 H : Hp) (ts : List Addr) (vx vy : List V) : Prop where
  at_ : ∀ (j : Nat) (t : Addr), ts[j]? = some t → H0 t = none ∧ ∃ x y, vx[j]? = some x ∧ vy[j]? = some y ∧ H t = some (.tup [x, y])
theorem zip_next {i : Nat} {s : Shared} {x y : Value} {E : Value → Shared → Prop} {Q : Option Value → Shared → Prop} (D : ZipApart z TI TO i1 i2 l1 l2) (off : ZOff z TI TO i1 i2 l1 l2 S) (hS : S < s.heap.objs.size) (st : ZSt z TI TO i1 i2 l1 l2 S xs ys i s.heap) (hx : xs[i]? = some x) (hy : ys[i]? = some y)
    (hQ : ∀ h', (∀ b o, b ∉ [z, TO, i1, i2] → s.heap.get? b = some o → h'.get? b = some o) → IsPair h' s.heap.objs.size x y → h'.objs.size = s.heap.objs.size + 1 →
      (∀ h'', (∀ b o, b ≠ S → h'.get? b = some o → h''.get? b = some o) → ZSt z TI TO i1 i2 l1 l2 S xs ys (i + 1) h'') → Q (some (.ref s.heap.objs.size)) { s with heap := h' }) :
    wpAny (model X.prog X.w) A (pyNext (.ref z)) Q E s := by
  obtain ⟨hTI, h1, h2, hl1, hl2, hz⟩ := st
  have big : ∀ {c o}, s.heap.get? c = some o → s.heap.objs.size ≠ c := fun e => Nat.ne_of_gt (Heap.lt_size e)
  have b1 : s.heap.objs.size ≠ i1 := let ⟨_, e, _⟩ := h1; big e
  have b2 : s.heap.objs.size ≠ i2 := let ⟨_, e, _⟩ := h2; big e
  rcases hz with ⟨hz, a, b, hTO⟩ | ⟨T, f, oT, hz, hT, r1, r2, r3, r4, oo, hoo⟩
  · refine wpAny_pyNext_zip_item D hz hTI hTO h1 h2 hl1 hl2 hx hy fun h' a1 a2 a3 a4 a5 a6 hk => ?_
    refine hQ h' (fun c o hc e => hk c o (fun q => hc (by simp [q])) (fun q => hc (by simp [q])) (fun q => hc (by simp [q])) (fun q => hc (by simp [q])) e) a5 a6 fun h'' k => ?_
    refine ⟨k _ _ off.TI.symm (hk _ _ D.TIz D.TITO D.TIi1 D.TIi2 hTI), a3.at fun o e => k _ o off.i1.symm e, a4.at fun o e => k _ o off.i2.symm e, hl1.at fun o e => k _ o off.l1.symm (hk _ o D.l1z D.l1TO D.l1i1 D.l1i2 e), hl2.at fun o e => k _ o off.l2.symm (hk _ o D.l2z D.l2TO D.l2i1 D.l2i2 e),
      .inr ⟨s.heap.objs.size, false, _, k _ _ off.z.symm a1, k _ _ (Nat.ne_of_gt hS) a5, big hz, b1, b2, Nat.ne_of_gt hS, _, k _ _ off.TO.symm a2⟩⟩
  · refine wpAny_pyNext_zip_item_held D hz hT hTI h1 h2 hl1 hl2 hx hy fun h' a1 a3 a4 a5 a6 hk => ?_
    refine hQ h' (fun c o hc e => hk c o (fun q => hc (by simp [q])) (fun q => hc (by simp [q])) (fun q => hc (by simp [q])) e) a5 a6 fun h'' k => ?_
    refine ⟨k _ _ off.TI.symm (hk _ _ D.TIz D.TIi1 D.TIi2 hTI), a3.at fun o e => k _ o off.i1.symm e, a4.at fun o e => k _ o off.i2.symm e, hl1.at fun o e => k _ o off.l1.symm (hk _ o D.l1z D.l1i1 D.l1i2 e), hl2.at fun o e => k _ o off.l2.symm (hk _ o D.l2z D.l2i1 D.l2i2 e),
      .inr ⟨T, true, oT, k _ _ off.z.symm a1, k _ _ r4 (hk _ _ r1 r2 r3 hT), r1, r2, r3, r4, oo, k _ _ off.TO.symm (hk _ _ D.TOz D.TOi1 D.TOi2 hoo)⟩⟩
theorem zip_over {i : Nat} {s : Shared} {E : Value → Shared → Prop} {Q : Option Value → Shared → Prop} (hh : A.handled = none) (D : ZipApart z TI TO i1 i2 l1 l2) (st : ZSt z TI TO i1 i2 l1 l2 S xs ys i s.heap) (he : xs[i]? = none ∨ ys[i]? = none)
    (hQ : ∀ h', (∀ b o, b ∉ [z, TO, i1, i2] → s.heap.get? b = some o → h'.get? b = some o) → Q none { s with heap := h' }) : wpAny (model X.prog X.w) A (pyNext (.ref z)) Q E s := by
  obtain ⟨hTI, h1, h2, hl1, hl2, hz⟩ := st
  rcases hz with ⟨hz, a, b, hTO⟩ | ⟨T, f, oT, hz, hT, r1, r2, r3, r4, oo, hoo⟩
  · exact wpAny_pyNext_zip_end hh D hz hTI hTO h1 h2 hl1 hl2 he fun h' hk => hQ h' fun c o hc e => hk c o (fun q => hc (by simp [q])) (fun q => hc (by simp [q])) (fun q => hc (by simp [q])) (fun q => hc (by simp [q])) e
  · exact wpAny_pyNext_zip_end_held hh D hz hT hTI h1 h2 hl1 hl2 he fun h' hk => hQ h' fun c o hc e => hk c o (fun q => hc (by simp [q])) (fun q => hc (by simp [q])) (fun q => hc (by simp [q])) e
theorem zip_drain (hh : A.handled = none) (D : ZipApart z TI TO i1 i2 l1 l2) (off : ZOff z TI TO i1 i2 l1 l2 S) (rx : Vals vx xs.toList) (ry : Vals vy ys.toList) {n : Nat} (hn : n = min vx.length vy.length) (hsz : n ≤ sizeLine)
    (hend : ∀ (H : Hp) (s' : Shared) (ts : List Addr) (acc : Array Value) (c : Nat), Inv X pins σ H s' → (∀ b ∈ [z, TO, i1, i2, S], FpOk X pins H b) → s'.heap.get? S = some (lstObj acc c) → Vals (ts.map V.ref) acc.toList → ts.length = n → Same H0 H → Prs H0 H ts vx vy → R (.ok (.ret res)) s') :
    ∀ (m i : Nat) (s : Shared) (H : Hp) (ts : List Addr) (acc : Array Value) (c : Nat), m + i = n → ZSt z TI TO i1 i2 l1 l2 S xs ys i s.heap → Inv X pins σ H s → (∀ b ∈ [z, TO, i1, i2, S], FpOk X pins H b) → s.heap.get? S = some (lstObj acc c) → Vals (ts.map V.ref) acc.toList → ts.length = i → Same H0 H → Prs H0 H ts vx vy →
      codeAny (model X.prog X.w) A (.builtin "list.extend.loop" ⟨[.ref S, .ref z, res], []⟩) R s := by
  have lx : vx.length = xs.size := by have := rx.length; simpa using this
  have ly : vy.length = ys.size := by have := ry.length; simpa using this
  intro m
  induction m with
  | zero =>
    intro i s H ts acc c hm st I fp hS rv hl sm pr
    refine codeAny_builtin F.entry_extend_loop ?_
    rw [Around.under_plainId F.plain_extend_loop _]
    show wpAny _ A.in1 (pyNext (.ref z) >>= _) _ _ s
    have hi : i = n := by omega
    have hend2 : xs[i]? = none ∨ ys[i]? = none := by
      rcases Nat.le_total vx.length vy.length with q | q
      · exact .inl (Array.getElem?_eq_none (by omega))
      · exact .inr (Array.getElem?_eq_none (by omega))
    refine wpAny_bind (zip_over (X := X) hh D st hend2 fun h' k => ?_)
    refine wpAny_pure ?_
    have I2 : Inv X pins σ H { s with heap := h' } := I.turnedL (t' := s.toks) (ch := [z, TO, i1, i2]) k fun b hb => fp b (List.mem_append_left [S] hb)
    have hSn : S ∉ [z, TO, i1, i2] := by simp [off.z, off.TO, off.i1, off.i2]
    exact hend H _ ts acc c I2 fp (k S _ hSn hS) rv (hl.trans hi) sm pr
  | succ m ih =>
    intro i s H ts acc c hm st I fp hS rv hl sm pr
    refine codeAny_builtin F.entry_extend_loop ?_
    rw [Around.under_plainId F.plain_extend_loop _]
    show wpAny _ A.in1 (pyNext (.ref z) >>= _) _ _ s
    have hix : i < xs.size := by omega
    have hiy : i < ys.size := by omega
    have ex := Array.getElem?_eq_getElem hix
    have ey := Array.getElem?_eq_getElem hiy
    have hvx : vx[i]? = some vx[i] := List.getElem?_eq_getElem (by omega)
    have hvy : vy[i]? = some vy[i] := List.getElem?_eq_getElem (by omega)
    refine wpAny_bind (zip_next (X := X) D off (Heap.lt_size hS) st ex ey fun h' k hT hz hst => ?_)
    have hSn : S ∉ [z, TO, i1, i2] := by simp [off.z, off.TO, off.i1, off.i2]
    have hS1 := k S _ hSn hS
    have hasz : acc.size = i := by
      have := rv.length
      rw [List.length_map, hl] at this
      simpa using this.symm
    show wpAny _ A.in1 (updateSeq S (·.push (.ref s.heap.objs.size)) >>= _) _ _ _
    refine wpAny_bind ?_
    refine wpAny_updateSeq hS1 rfl (wpAny_pure ⟨plainId_quiet F.plain_extend_loop _, ?_⟩) (by omega) (by show (acc.push _).size ≤ sizeLine + 1; rw [Array.size_push]; omega)
    have keep3 : ∀ b o, b ≠ S → h'.get? b = some o → (h'.update S (Obj.mapSeq (·.push (.ref s.heap.objs.size)))).get? b = some o := fun b o hbS e => (Heap.get?_update_other _ _ (Ne.symm hbS)).trans e
    have hTS : s.heap.objs.size ≠ S := Nat.ne_of_gt (Heap.lt_size hS)
    have hTn : H s.heap.objs.size = none := I.hok.fresh (Nat.le_refl _)
    have gx : RelV vx[i] xs[i] := by
      obtain ⟨u, hu, r⟩ := rx.get hvx
      have : u = xs[i] := by simpa [ex] using hu.symm
      rw [← this]; exact r
    have gy : RelV vy[i] ys[i] := by
      obtain ⟨u, hu, r⟩ := ry.get hvy
      have : u = ys[i] := by simpa [ey] using hu.symm
      rw [← this]; exact r
    have I2 : Inv X pins σ (upd H s.heap.objs.size (.tup [vx[i], vy[i]])) { s with heap := h'.update S (Obj.mapSeq (·.push (.ref s.heap.objs.size))) } :=
      I.turnedNew (t' := s.toks) (ch := [z, TO, i1, i2, S]) (fun b o hb e => keep3 b o (fun q => hb (by simp [q])) (k b o (fun q => hb (List.mem_append_left [S] q)) e)) fp (Nat.le_refl _)
        ⟨by show 2 ≤ sizeLine; decide, [xs[i], ys[i]], .cons gx (.cons gy .nil), ⟨_, keep3 _ _ hTS hT, rfl, _, rfl⟩⟩
    refine ih (i + 1) _ (upd H s.heap.objs.size (.tup [vx[i], vy[i]])) (ts ++ [s.heap.objs.size]) (acc.push (.ref s.heap.objs.size)) _ (by omega) (hst _ keep3) I2 (fun b hb => ?_) (Heap.get?_update_self _ hS1 rfl) ?_ (by rw [List.length_append, hl]; rfl) (sm.trans (same_new hTn)) ⟨fun j t e => ?_⟩
    · obtain ⟨f1, f2⟩ := fp b hb
      refine ⟨?_, f2⟩
      have hne : b ≠ s.heap.objs.size := by
        obtain ⟨hTI, ⟨o1, e1, _⟩, ⟨o2, e2, _⟩, hl1, hl2, hz'⟩ := st
        have big : ∀ {c o}, s.heap.get? c = some o → c ≠ s.heap.objs.size := fun e => Nat.ne_of_lt (Heap.lt_size e)
        have e' : b = z ∨ b = TO ∨ b = i1 ∨ b = i2 ∨ b = S := by simpa using hb
        rcases e' with q | q | q | q | q
        · rw [q]; rcases hz' with ⟨q1, _⟩ | ⟨_, _, _, q1, _⟩ <;> exact big q1
        · rw [q]; rcases hz' with ⟨_, _, _, q1⟩ | ⟨_, _, _, _, _, _, _, _, _, _, q1⟩ <;> exact big q1
        · rw [q]; exact big e1
        · rw [q]; exact big e2
        · rw [q]; exact hTS.symm
      rw [upd_ne hne]; exact f1
    · rw [List.map_append, Array.toList_push]
      exact rv.append (.cons rfl .nil)
    · by_cases hj : j < ts.length
      · rw [List.getElem?_append_left hj] at e
        obtain ⟨q1, x, y, q2, q3, q4⟩ := pr.at_ j t e
        exact ⟨q1, x, y, q2, q3, upd_old hTn q4⟩
      · rw [List.getElem?_append_right (by omega)] at e
        have e3 : j = i := by
          cases hh : j - ts.length with
          | zero => omega
          | succ k => rw [hh] at e; simp at e
        subst e3
        rw [hl, Nat.sub_self] at e
        cases e
        refine ⟨?_, _, _, hvx, hvy, upd_same⟩
        cases q : H0 s.heap.objs.size with
        | none => rfl
        | some u => rw [sm _ _ q] at hTn; cases hTn
/-- what list(zip(a, b)) gives -/
def tListZip (K : PySem.W.Frag) (ta : TA) : TE := fun σ H Q => ta σ H fun vs H1 => ∃ (a b : Addr) (xs ys : List V), vs = [.ref a, .ref b] ∧ SqL K H1 a xs ∧ SqL K H1 b ys ∧
  ∀ (ts : List Addr) (H2 : Hp) (p : Addr), Same H1 H2 → Prs H1 H2 ts xs ys → ts.length = min xs.length ys.length → H1 p = none → H2 p = some (.lst (ts.map V.ref)) → Q (.ref p) H2
theorem pe_listZip {e e2 : Expr} {ta : TA} {p pos p2 pos2 : Pos} (hc : X.calm = true) (hg : Gl X "list") (hm : X.mg "list" = none) (hgz : Gl X "zip") (hmz : X.mg "zip" = none) (ha : PA X [e, e2] ta)
    (hs : starEach [e, e2] X.env = (false, eval e X.env) :: starEach [e2] X.env := by rfl) (hpl : (backTo pos2 (starEach [e2] X.env)).any (·.1) = false := by rfl)
    (na : starEach [.Call (.Name "zip" p2) [e, e2] [] pos2] X.env = (false, eval (.Call (.Name "zip" p2) [e, e2] [] pos2) X.env) :: starEach [] X.env := by rfl) : PE X (.Call (.Name "list" p) [.Call (.Name "zip" p2) [e, e2] [] pos2] [] pos) (tListZip X.K ta) := by
  refine ⟨fun pins s σ H Q I h => ?_⟩
  refine Call_ (ld_blt I hg hm boot_list (PyProof.Rows.callWith_type1 (args_cons (Call_ (ld_blt I hgz hmz PyProof.Rows.boot_zip (PyProof.Rows.callWith_type1 (thn (ha.run pos2 pins s σ H _ I h) fun us s1 ⟨vs, H1, I1, r1, q1⟩ => ?_) hs hpl))) na) na))
  obtain ⟨a, b, xs, ys, ex, hqx, hqy, q⟩ := q1
  subst ex
  cases r1 with
  | cons r rr =>
    cases rr with
    | cons r' rr =>
      cases rr
      cases r
      cases r'
      obtain ⟨its, rv, p1, z1⟩ := I1.list hqx
      obtain ⟨its2, rv2, p2, z2⟩ := I1.list hqy
      have la : a < s1.heap.objs.size := p1.lt
      have lb : b < s1.heap.objs.size := p2.lt
      refine call_zip_2 p1.isList p2.isList fun h' hz hTI hTO h1 h2 hsz hk => args_nil ?_
      have I2 : Inv X pins σ H1 { s1 with heap := h' } := I1.kept (t' := s1.toks) hk
      have ev : EP X pins σ Q = fun u s' => ∃ v H', Inv X pins σ H' s' ∧ RelV v u ∧ Q v H' := rfl
      generalize hst : ({ heap := h', gens := s1.gens, drawn := s1.drawn, toks := s1.toks, os := s1.os } : Shared) = s2 at I2 ⊢
      have e2 : s2.heap = h' := by rw [← hst]
      have SN : h'.objs.size = s1.heap.objs.size + 5 := hsz
      refine callType_codes (Q₁ := fun obj s₁ => obj = .ref s2.heap.objs.size ∧ s₁ = { s2 with heap := s2.heap.push { cls := .type "list", data := .seq #[] } }) F.called_list (F.typeCall_list_1 _) F.entry_list_init
        (code_list_new _ ⟨rfl, rfl⟩) fun obj s₁ h₁ => ?_
      obtain ⟨rfl, rfl⟩ := h₁
      have hS : (s2.heap.push { cls := .type "list", data := .seq #[] }).get? s2.heap.objs.size = some { cls := .type "list", data := .seq #[] } := Heap.get?_push_size _ rfl
      have k1 : ∀ b o, s2.heap.get? b = some o → (s2.heap.push { cls := .type "list", data := .seq #[] }).get? b = some o := fun b o e => Heap.get?_push_of_some _ e
      have up : ∀ (h : Heap) (f : Obj → Obj), (∀ b o, s2.heap.get? b = some o → h.get? b = some o) → ∀ b o, s2.heap.get? b = some o → (h.update s2.heap.objs.size f).get? b = some o := fun h f q b o e =>
        (Heap.get?_update_other _ _ (Ne.symm (Nat.ne_of_lt (Heap.lt_size e)))).trans (q b o e)
      refine ⟨⟨_, hS, rfl⟩, F.args_list_init_2 _ _, ?_⟩
      show wpAny _ X.A.in1.in1 (do let old ← Builtin.List.listItems (.ref s2.heap.objs.size); Builtin.List.listUpdate (.ref s2.heap.objs.size) (fun _ => #[]); letGo old.toList.reverse; Builtin.List.listExtendWith (.ref s2.heap.objs.size) (.ref (s1.heap.objs.size + 4)) .none) _ _ _
      refine wpAny_bind ?_
      unfold Builtin.List.listItems
      refine wpAny_bind (wpAny_seqItems hS rfl (wpAny_pure ?_))
      show wpAny _ X.A.in1.in1 (updateSeq s2.heap.objs.size (fun _ => #[]) >>= fun _ => letGo (#[] : Array Value).toList.reverse >>= fun _ => Builtin.List.listExtendWith (.ref s2.heap.objs.size) (.ref (s1.heap.objs.size + 4)) .none) _ _ _
      refine wpAny_bind (wpAny_updateSeq hS rfl ?_)
      have hS2 := Heap.get?_update_self (Obj.mapSeq (fun _ => (#[] : Array Value))) hS rfl
      have k2 := up _ (Obj.mapSeq (fun _ => (#[] : Array Value))) k1
      refine wpAny_bind (wpAny_letGo ?_)
      unfold Builtin.List.listExtendWith
      have hz0 : IsZip s2.heap (s1.heap.objs.size + 4) (s1.heap.objs.size + 2) (s1.heap.objs.size + 3) .none := by rw [e2]; exact hz
      refine wpAny_bind (wpAny_typeOf (T := "zip") ⟨_, k2 _ _ hz0, rfl⟩ ?_)
      have hne : s2.heap.objs.size ≠ s1.heap.objs.size + 4 := by rw [e2, SN]; exact fun q => by have : (s1.heap.objs.size + 5 : Nat) = s1.heap.objs.size + 4 := q; omega
      have h1' : Builtin.List.listSameRef (.ref s2.heap.objs.size) (.ref (s1.heap.objs.size + 4)) = false := by simp [Builtin.List.listSameRef, hne]
      have h2' : (Value.type "zip" == Value.type "list") = false := by decide
      have h3' : (Value.type "zip" == Value.type "tuple") = false := by decide
      simp only [h1', h2', h3', Bool.or_false, Bool.false_eq_true, if_false]
      refine wpAny_bind (wpAny_pyIter_zip (k2 _ _ hz0) ?_)
      refine wpAny_bind (wpAny_holding ?_)
      unfold Builtin.List.listLengthHint
      refine wpAny_bind (wpAny_specialOf (T := "zip") ⟨_, k2 _ _ hz0, rfl⟩ zipNoLen ?_)
      show wpAny _ X.A.in1.in1 (specialOf (Value.ref (s1.heap.objs.size + 4)) (Str.ofString "__length_hint__") >>= _) _ _ _
      refine wpAny_bind (wpAny_specialOf (T := "zip") ⟨_, k2 _ _ hz0, rfl⟩ zipNoHint ?_)
      refine wpAny_pure ?_
      have key : ∀ (h : Heap) (c : Nat), (∀ b o, s2.heap.get? b = some o → h.get? b = some o) → h.get? s2.heap.objs.size = some (lstObj #[] c) →
          codeAny (model X.prog X.w) X.A.in1 (.builtin "list.extend.loop" ⟨[.ref s2.heap.objs.size, .ref (s1.heap.objs.size + 4), .none], []⟩) (wants (fun r s₂ => r = Value.none ∧ EP X pins σ Q (Value.ref s2.heap.objs.size) s₂) X.xe) { s2 with heap := h } := by
        intro h c k hSc
        have SN2 : s2.heap.objs.size = s1.heap.objs.size + 5 := by rw [e2]; exact SN
        have I3 : Inv X pins σ H1 { s2 with heap := h } := I2.kept (t' := s2.toks) k
        have kk : ∀ b o, h'.get? b = some o → h.get? b = some o := fun b o e => k b o (by rw [e2]; exact e)
        have fr : ∀ b, s1.heap.objs.size ≤ b → FpOk X pins H1 b := fun b hb => I1.fpOk hb (I1.hok.fresh hb)
        have off : ZOff (s1.heap.objs.size + 4) (s1.heap.objs.size + 2) (s1.heap.objs.size + 3) s1.heap.objs.size (s1.heap.objs.size + 1) a b s2.heap.objs.size := by
          rw [SN2]
          have la' : (a : Nat) < s1.heap.objs.size := la
          have lb' : (b : Nat) < s1.heap.objs.size := lb
          constructor <;> first | exact Nat.ne_of_gt (Nat.lt_of_lt_of_le la' (Nat.le_add_right _ _)) | exact Nat.ne_of_gt (Nat.lt_of_lt_of_le lb' (Nat.le_add_right _ _)) | (intro q; have q' : (s1.heap.objs.size + 5 : Nat) = _ := q; omega)
        refine zip_drain (X := X) (A := X.A.in1) (pins := pins) (σ := σ) (H0 := H1) (vx := xs) (vy := ys) (n := min xs.length ys.length) (xs := its.toArray) (ys := its2.toArray) (show X.A.in1.handled = none from I1.ok.hd hc) (PySem.W.ktu_apart s1.heap.objs.size a b la lb) off (by simpa using rv) (by simpa using rv2) rfl (Nat.le_trans (Nat.min_le_left _ _) z1)
          (fun H4 s4 ts acc c4 I4 fp4 hS4 rv4 hl4 sm4 pr4 => ?_) (min xs.length ys.length) 0 _ H1 [] #[] c rfl
          ⟨kk _ _ hTI, h1.at fun o e => kk _ o e, h2.at fun o e => kk _ o e, p1.isList.at fun o e => kk _ o (hk _ o e), p2.isList.at fun o e => kk _ o (hk _ o e), .inl ⟨kk _ _ hz, _, _, kk _ _ hTO⟩⟩ I3 (fun d hd => fr d ?_) hSc .nil rfl (Same.refl H1) ⟨fun j t e => by simp at e⟩
        · refine ⟨rfl, .ref s2.heap.objs.size, upd H4 s2.heap.objs.size (.lst (ts.map V.ref)), ?_, rfl, q ts _ s2.heap.objs.size (sm4.trans (same_new ?_)) ⟨fun j t e => ?_⟩ hl4 (I1.hok.fresh (by rw [SN2]; exact Nat.le_add_right _ _)) upd_same⟩
          · have fS := fp4 s2.heap.objs.size (by simp)
            have hSn : H4 s2.heap.objs.size = none := fS.1
            refine I4.call' (ch := [s2.heap.objs.size]) rfl ⟨fun b o q _ _ _ => q, fun b o q _ _ _ => ⟨o.slots, q⟩, fun b o q n hb => ?_, fun b o q _ => ⟨o, q⟩, fun b xs q => ?_, fun b o y q => ?_, fun b qs q => ⟨#[], ?_⟩⟩ (fun b u q => ?_) I4.bare (fun b hb => ?_)
            · rw [upd_ne fun q => hb (by rw [q]; exact List.mem_singleton.mpr rfl)]; exact n
            · rw [upd_ne (ne_of_none q hSn)]; exact q
            · rw [upd_ne (ne_of_none q hSn)]; exact q
            · rw [upd_ne (ne_of_none q hSn), q]; simp
            · by_cases hb : b = s2.heap.objs.size
              · subst hb
                rw [upd_same] at q
                cases q
                exact ⟨by rw [List.length_map, hl4]; exact Nat.le_trans (Nat.min_le_left _ _) z1, acc.toList, c4, rv4, by rw [hS4]⟩
              · rw [upd_ne hb] at q
                exact (I4.hok b u q).stay (fun _ _ _ z => z) (fun d z => by rw [upd_ne (ne_of_none z hSn)]; exact z) fun d xs z => by rw [upd_ne (ne_of_none z hSn)]; exact z
            · rw [List.mem_singleton.mp hb]
              exact ⟨fS.2.2.2.1, fS.2.1, fS.2.2.2.2.1, fS.2.2.2.2.2⟩
          · exact (fp4 s2.heap.objs.size (by simp)).1
          · obtain ⟨q1, x, y, q2, q3, q4⟩ := pr4.at_ j t e
            exact ⟨q1, x, y, q2, q3, upd_old (fp4 s2.heap.objs.size (by simp)).1 q4⟩
        · have hd' : d = s1.heap.objs.size + 4 ∨ d = s1.heap.objs.size + 3 ∨ d = s1.heap.objs.size ∨ d = s1.heap.objs.size + 1 ∨ d = s2.heap.objs.size := by simpa using hd
          rcases hd' with q | q | q | q | q
          · rw [q]; exact Nat.le_add_right _ _
          · rw [q]; exact Nat.le_add_right _ _
          · rw [q]; exact Nat.le_refl _
          · rw [q]; exact Nat.le_add_right _ _
          · rw [q, SN2]; exact Nat.le_add_right _ _
      simp only [Bool.true_or, if_true]
      refine wpAny_bind (wpAny_rule ?_)
      refine wpAny_bind ?_
      show wpAny _ _ (updateSeq s2.heap.objs.size (·.push .none) >>= fun _ => updateSeq s2.heap.objs.size (·.pop)) _ _ _
      refine wpAny_bind (wpAny_updateSeq hS2 rfl ?_)
      have hS3 := Heap.get?_update_self (Obj.mapSeq (·.push Value.none)) hS2 rfl
      refine wpAny_updateSeq (hz := by seq_fits) hS3 rfl ?_
      have hS4 := Heap.get?_update_self (Obj.mapSeq (·.pop)) hS3 rfl
      have k4 := up _ (Obj.mapSeq (·.pop)) (up _ (Obj.mapSeq (·.push Value.none)) k2)
      exact wpAny_pure ⟨plainId_quiet F.plain_extend_loop _, key _ _ k4 hS4⟩
end
theorem pe_listZipK (K : PySem.W.Frag) {X : Cx} {e e2 : Expr} {ta : TA} {p pos p2 pos2 : Pos} (hc : X.calm = true) (hg : Gl X "list") (hm : X.mg "list" = none) (hgz : Gl X "zip") (hmz : X.mg "zip" = none) (ha : PA X [e, e2] ta) (hK : X.K = K := by rfl)
    (hs : starEach [e, e2] X.env = (false, eval e X.env) :: starEach [e2] X.env := by rfl) (hpl : (backTo pos2 (starEach [e2] X.env)).any (·.1) = false := by rfl)
    (na : starEach [.Call (.Name "zip" p2) [e, e2] [] pos2] X.env = (false, eval (.Call (.Name "zip" p2) [e, e2] [] pos2) X.env) :: starEach [] X.env := by rfl) : PE X (.Call (.Name "list" p) [.Call (.Name "zip" p2) [e, e2] [] pos2] [] pos) (tListZip K ta) :=
  hK ▸ pe_listZip hc hg hm hgz hmz ha hs hpl na
section
variable {K : PySem.W.Frag} {σ : L2.St} {H : Hp} {Q : VK} {ta : TA}
theorem r_lzip (h : ta σ H fun vs H1 => ∃ (a b : Addr) (xs ys : List V), vs = [.ref a, .ref b] ∧ SqL K H1 a xs ∧ SqL K H1 b ys ∧
  ∀ (ts : List Addr) (H2 : Hp) (p : Addr), Same H1 H2 → Prs H1 H2 ts xs ys → ts.length = min xs.length ys.length → H1 p = none → H2 p = some (.lst (ts.map V.ref)) → Q (.ref p) H2) : tListZip K ta σ H Q := h
theorem r_listG {tg : TGen} (h : tg σ H fun out H2 => ∀ p, H2 p = none → Q (.ref p) (upd H2 p (.lst out))) : tListG tg σ H Q := h
theorem r_callGn {sp : SpG} {dvs : List V} {E : XK} {cont : List V → Hp → Prop} (h : ta σ H fun vs H1 => sp (vs ++ dvs) H1 cont E) : tCallG sp dvs E ta σ H cont := h
end
end Xk
local macro_rules | `(tactic| fail "one") => `(tactic| with_reducible first | refine Xk.r_lzip ?_ | refine Xk.r_listG ?_ | refine Xk.r_callGn ?_)

set_option Elab.async false
set_option linter.all false
set_option maxRecDepth 100000
namespace Xk
open PySem PySem.Spec PyProof.Rows L2
/-- a new object; the heap behind it is any that keeps all and has it -/
def New (Q : VK) (H : Hp) (o : HO) : Prop := ∀ p, H p = none → Q (.ref p) (upd H p o)
section
variable {K : PySem.W.Frag} {σ : L2.St} {H : Hp} {Q : VK} {o : HO} {tA : TA} {te : TE} {p b : Addr} {xs ys : List V} {ns ms : List Int}
theorem new_ (h : ∀ (p : Addr) (H' : Hp), H p = none → Same H H' → H' p = some o → Q (.ref p) H') : New Q H o := fun p np => h p _ np (same_new np) upd_same
theorem n_lst (h : tA σ H fun xs H1 => xs.length ≤ sizeLine ∧ New Q H1 (.lst xs)) : tLst tA σ H Q := h
theorem n_tup (h : tA σ H fun xs H1 => xs.length ≤ sizeLine ∧ New Q H1 (.tup xs)) : tTup tA σ H Q := h
theorem n_slL {lo hi : Option Int} (h : SqL K H p xs) (q : New Q H (.lst (cutV xs lo hi))) : rSlL K (.ref p) lo hi H Q := ⟨p, xs, rfl, h, q⟩
theorem n_slF {z : Int} {a : Nat} (h : SqL K H p (ns.map V.int)) (e : z = (a : Int)) (q : New Q H (.lst ((ns.drop a).map V.int))) : rSlL K (.ref p) (some z) none H Q :=
  n_slL h (by rw [cut_from e, ← List.map_drop]; exact q)
theorem n_slT {z : Int} {a : Nat} (h : SqL K H p (ns.map V.int)) (e : z = (a : Int)) (q : New Q H (.lst ((ns.take a).map V.int))) : rSlL K (.ref p) none (some z) H Q :=
  n_slL h (by rw [cut_to e, ← List.map_take]; exact q)
theorem n_slM {z y : Int} {a c : Nat} (h : SqL K H p (ns.map V.int)) (e : z = (a : Int)) (g : y = (c : Int)) (q : New Q H (.lst (((ns.drop a).take (c - a)).map V.int))) : rSlL K (.ref p) (some z) (some y) H Q :=
  n_slL h (by rw [cut_any e g, ← List.map_drop, ← List.map_take]; exact q)
theorem n_listOf (h : SqL K H p xs) (q : New Q H (.lst xs)) : rListOf K [.ref p] H Q := ⟨p, xs, rfl, .inl h, q⟩
theorem n_lrg {tr : L2.St → Hp → (Int → Int → Hp → Prop) → Prop} (h : tr σ H fun a b H1 => RgOk a b ∧ New Q H1 (.lst (rgV a b))) : tLstRg tr σ H Q := h
theorem n_revL (h : te σ H fun x H1 => ∃ a xs, x = .ref a ∧ SqL K H1 a xs ∧ New Q H1 (.lst xs.reverse)) : tRevL K te σ H Q := h
theorem n_cat (h : H p = some (.lst xs)) (g : H b = some (.lst ys)) (hz : xs.length + ys.length ≤ sizeLine) (q : New Q H (.lst (xs ++ ys))) : rCat (.ref p) (.ref b) H Q := ⟨p, b, xs, ys, rfl, rfl, h, g, hz, q⟩
theorem n_catI (h : H p = some (.lst (ns.map V.int))) (g : H b = some (.lst (ms.map V.int))) (hz : ns.length + ms.length ≤ 16777216) (q : New Q H (.lst ((ns ++ ms).map V.int))) : rCat (.ref p) (.ref b) H Q :=
  n_cat h g (by rw [List.length_map, List.length_map]; exact hz) (by rw [← List.map_append]; exact q)
theorem s_trans {H0 H1 H2 : Hp} (b : Same H1 H2) (a : Same H0 H1) : Same H0 H2 := a.trans b
theorem s_new {H0 H : Hp} {a : Addr} {o : HO} (np : H a = none) (s : Same H0 H) : Same H0 (upd H a o) := s.trans (same_new np)
theorem sq_new {K : PySem.W.Frag} {H : Hp} {a b : Addr} {o : HO} {xs : List V} (np : H a = none) (s : SqL K H b xs) : SqL K (upd H a o) b xs := (same_new np).seq s
theorem ne_n {H : Hp} {a b : Addr} {u : HO} (n : H b = none) (h : H a = some u) : a ≠ b := ne_of_none h n
theorem ne_n' {H : Hp} {a b : Addr} {u : HO} (n : H a = none) (h : H b = some u) : a ≠ b := (ne_of_none h n).symm
theorem c_chain {r r' : R2} {ta tb tc : TE} {σ : L2.St} {H : Hp} {Q : VK} (h : ta σ H fun x H1 => tb σ H1 fun y H2 => r x y H2 fun z H3 => ∃ k, z = .bl k ∧ (if k = true then tc σ H3 fun w' H4 => r' y w' H4 Q else Q (.bl false) H3)) : tChain r r' ta tb tc σ H Q := h
theorem n_rep {l : Addr} {n : Nat} {zs : List V} (h : H l = some (.lst zs)) (hn : n ≤ 1000000) (hz : zs.length * n ≤ 16777216) (q : New Q H (.lst (List.replicate n zs).flatten)) : rRep (.ref l) (.int (n : Int)) H Q :=
  ⟨l, n, zs, rfl, rfl, h, by omega, by omega, by rw [Int.toNat_natCast]; exact hz, fun p np => by rw [Int.toNat_natCast]; exact q p np⟩
theorem new_map {xs : List Int} {u : List V} (e : u = xs.map V.int) (h : New Q H (.lst (xs.map V.int))) : New Q H (.lst u) := e ▸ h
end
end Xk
/-- what stands in a heap, and what keeps: back along the one step that made each heap -/
local macro_rules | `(tactic| fail "kp") => `(tactic| with_reducible first
  | assumption | exact L2.upd_same | exact L2.Same.refl _
  | (apply Xk.same_to; assumption; fail "kp")
  | (apply L2.Same.seq; assumption; fail "kp")
  | (apply Xk.sx_to; assumption; fail "kpn"; fail "kp")
  | (apply Xk.upd_old; assumption; fail "kp")
  | (apply Xk.upd_to; fail "kpn"; fail "kp")
  | (apply Xk.s_trans; assumption; fail "kp")
  | (apply Xk.s_new; assumption; fail "kp")
  | (apply Xk.sq_new; assumption; fail "kp")
  | (apply Xk.sqT_same; assumption; fail "kp")
  | (apply Xk.sq; fail "kp")
  | (apply Xk.sqT; fail "kp"))
/-- another address -/
local macro_rules | `(tactic| fail "kpn") => `(tactic| with_reducible first | assumption | (apply Ne.symm; assumption) | (apply Xk.ne_n; assumption; fail "kp") | (apply Xk.ne_n'; assumption; fail "kp"))
local macro_rules | `(tactic| fail "ww1") => `(tactic| with_reducible first
  | refine Xk.c_chain ?_ | refine Xk.n_lst ?_ | refine Xk.n_tup ?_ | refine Xk.n_lrg ?_ | refine Xk.n_revL ?_)
local macro_rules | `(tactic| fail "ww2") => `(tactic| first
  | ((with_reducible refine' Xk.r_var ?hv ?_); (case hv => exact rfl))
  | ((with_reducible refine' Xk.r_aug ?hv ?_); (case hv => exact rfl))
  | ((with_reducible refine' Xk.r_ixL ?hv ?hw ?_); (case hv => fail "kp"); (case hw => fail "at"))
  | ((with_reducible refine' Xk.r_setL ?hv ?hw ?_); (case hv => fail "kp"); (case hw => fail "ix"))
  | ((with_reducible refine' Xk.r_gtup ?hv ?hw ?_); (case hv => exact Xk.sqT (by fail "kp")); (case hw => exact rfl))
  | ((with_reducible refine' ⟨Xk.ty_list (K := _) (xs := _) ?hv, ?_⟩); (case hv => fail "kp"))
  | ((with_reducible refine' Xk.r_append ?hv ?hw ?_); (case hv => fail "kp"); (case hw => fail "sd"))
  | ((with_reducible refine' Xk.r_I (C := fun _ j => 0 < j) ?hv ?_); (case hv => (first | omega | (show (0 : Int) < _; omega) | decide)))
  | ((with_reducible refine' Xk.r_len ?hv ?_); (case hv => fail "kp"))
  | ((with_reducible refine' Xk.n_listOf ?hv ?_); (case hv => fail "kp"))
  | ((with_reducible refine' Xk.r_I (C := Xk.CPowW) ?hv ?_); (case hv => exact ⟨by decide, by decide⟩))
  | (with_reducible refine ⟨Xk.szL (by with_unfolding_all rfl), ?_⟩)
  | ((with_reducible refine' ⟨_, _, rfl, ?hv, ?_⟩); (case hv => ((with_reducible show L2.SqL _ _ _ _); fail "kp")))
  | (with_reducible refine ⟨_, _, _, _, rfl, Xk.sq (by fail "kp"), Xk.sq (by fail "kp"), ?_⟩)
  | ((with_reducible refine' ⟨⟨_, ?hv⟩, ?_⟩); (case hv => ((with_reducible show L2.SqL _ _ _ _); fail "kp")))
  | (with_reducible refine Or.inl ⟨_, rfl, ?_⟩) | (with_reducible refine Or.inr ⟨_, rfl, ?_⟩)
  | (with_reducible refine ⟨_, _, rfl, rfl, ?_⟩) | (with_reducible refine ⟨_, rfl, ?_⟩) | (with_reducible refine ⟨_, _, rfl, ?_⟩))
local macro_rules | `(tactic| fail "ww") => `(tactic| repeat (first | fail "ww1" | fail "one" | fail "ww2"))

set_option Elab.async false
set_option linter.all false
set_option maxRecDepth 100000
namespace Xk
open PySem PySem.Spec PyProof.Rows L2 GenW
/-! ### enumerate(xs, start=c) -/
/-- the list at a, each item with its number from c on in a new pair -/
def Iteo (K : PySem.W.Frag) (a : Addr) (c : Int) : It where
  go i H := ∃ (xs : List V) (x : V), SqL K H a xs ∧ xs[i]? = some x
  yld i H v H' := ∃ T x, v = .ref T ∧ H T = none ∧ H' = upd H T (.tup [.int (c + (i : Nat)), x]) ∧ ∀ xs, SqL K H a xs → xs[i]? = some x
  stop i H := ∃ xs : List V, SqL K H a xs ∧ xs.length = i
theorem turn_enumS {P : Program} {w : World} {K : PySem.W.Frag} {elts : List Expr} {kk : Nat} {tpos : Pos} (a e it : Addr) (c : Int) :
    Turn P w K (.Tuple elts kk tpos) (Iteo K a c) [e, it] e (fun i h => (∃ was, IsEnum h e it (c + ((i : Nat) : Int)) was) ∧ h.IsListIter it a i ∧ e ≠ it) where
  mem := List.mem_cons_self
  obj := by
    rintro i h ⟨⟨was, he⟩, ⟨o, ho, _, hd⟩, _⟩ b hb
    rcases List.mem_cons.mp hb with z | z
    · subst z; exact ⟨_, he, fun v q => nomatch q⟩
    · rw [List.mem_singleton.mp z]; exact ⟨o, ho, fun v q => by rw [hd] at q; cases q⟩
  keep := by
    rintro i h h' ⟨⟨was, he⟩, hi, hne⟩ k
    exact ⟨⟨was, k e (by simp) _ he⟩, hi.at fun o q => k it (by simp) o q, hne⟩
  item := by
    intro X hP hw hK hc i pins s σ H E I hf st hg
    subst hP hw hK
    obtain ⟨⟨was, he⟩, hit, hne⟩ := st
    obtain ⟨xs, x, hq, hx⟩ := hg
    obtain ⟨its, rv, p, _⟩ := I.list hq
    obtain ⟨u, hu, ru⟩ := rv.get hx
    have pl := p.isList
    have hel : e < s.heap.objs.size := Heap.lt_size he
    have hil : it < s.heap.objs.size := by obtain ⟨_, q, _⟩ := hit; exact Heap.lt_size q
    have hai : a ≠ it := by
      intro z; subst z
      obtain ⟨o1, e1, c1, _⟩ := hit
      obtain ⟨o2, e2, c2, _⟩ := pl
      rw [e1] at e2; cases e2
      rw [c1] at c2
      exact absurd (Value.type.inj c2) (by decide)
    have hea : e ≠ a := by
      intro z; subst z
      obtain ⟨o2, e2, c2, _⟩ := pl
      rw [he] at e2; cases e2
      exact absurd (Value.type.inj c2) (by decide)
    have hul : its.toArray[i]? = some u := by simpa using hu
    have hsz : i < its.toArray.size := (Array.getElem?_eq_some_iff.mp hul).1
    refine wpAny_pyNext_enum_itemC (Draws.list (prog := X.prog) (w := X.w) (A := X.A.in1) (I.ok.hd hc) it a hai its.toArray) he ⟨hit, pl⟩ hsz hne (by simp [hne, hea]) fun y h' tk hy ho st' hT hz hk => ?_
    have ey : y = u := by
      have hy' : its.toArray[i]? = some y := hy
      rw [hul] at hy'; exact (Option.some.inj hy').symm
    subst ey
    refine ⟨_, rfl, wpAny_letOwnedTupleGo_enum (s := { s with heap := h', toks := tk + 1 }) ho fun h'' he' sb => ?_⟩
    have hT2 := (sb.2 _ (Nat.ne_of_gt hel)).trans hT
    have new : ObjOk X.prog X.w (upd H s.heap.objs.size (.tup [.int (c + (i : Nat)), x])) h'' s.heap.objs.size (.tup [.int (c + (i : Nat)), x]) :=
      ⟨szL rfl, [.int (c + (i : Nat)) tk, y], .cons ⟨_, rfl⟩ (.cons ru .nil), ⟨_, hT2, rfl, _, rfl⟩⟩
    have I1 : Inv X pins σ (upd H s.heap.objs.size (.tup [.int (c + (i : Nat)), x])) { s with heap := h'', toks := tk + 1 } := by
      refine I.turnedNew (ch := [e, it]) (fun b ob hb q => ?_) hf (Nat.le_refl _) new
      have b1 : b ≠ e := fun z => hb (by simp [z])
      have b2 : b ≠ it := fun z => hb (by simp [z])
      exact (sb.2 b b1).trans (hk b ob b1 b2 q)
    refine ⟨.ref s.heap.objs.size, _, I1, rfl, ⟨_, x, rfl, I.hok.fresh (Nat.le_refl _), rfl, fun ys hy => by rw [I.list_inj hy hq]; exact hx⟩, ⟨⟨y, ?_⟩, st'.1.at fun o q => (sb.2 it (Ne.symm hne)).trans q, hne⟩, fun b hb => ?_⟩
    · rw [show c + ((i + 1 : Nat) : Int) = c + (i : Int) + 1 by omega]; exact he'
    · have hb' : b < s.heap.objs.size := by
        rcases List.mem_cons.mp hb with z | z
        · rw [z]; exact hel
        · rw [List.mem_singleton.mp z]; exact hil
      rw [upd_ne (Nat.ne_of_lt hb')]
      exact (hf b hb).1
  done := by
    intro X hP hw hK hc i pins s σ H E I hf st hg
    subst hP hw hK
    obtain ⟨⟨was, he⟩, hit, hne⟩ := st
    obtain ⟨xs, hq, hx⟩ := hg
    obtain ⟨its, rv, p, _⟩ := I.list hq
    obtain ⟨f0, f1, f2, f3, f4, f5⟩ := hf it (by simp)
    have hl : its.toArray.size = i := by have := rv.length; simp; omega
    have pl := p.isList
    have hai : a ≠ it := by
      intro z; subst z
      obtain ⟨o1, e1, c1, _⟩ := hit
      obtain ⟨o2, e2, c2, _⟩ := pl
      rw [e1] at e2; cases e2
      rw [c1] at c2
      exact absurd (Value.type.inj c2) (by decide)
    refine wpAny_pyNext_enum_endD (Draws.list (prog := X.prog) (w := X.w) (A := X.A.in1) (I.ok.hd hc) it a hai its.toArray) he ⟨by rw [hl]; exact hit, pl⟩ fun h' eb => ⟨rfl, I.turned (t' := s.toks) (fun b o hb q => eb b o hb q) f0 f1 f3 f4 f5⟩
  self := fun A i s Q E st h => let ⟨⟨_, he⟩, _⟩ := st; wpAny_pyIter_enum he h
/-- what a walk over enumerate(xs, start=c) asks -/
def iEnumS (K : PySem.W.Frag) (ta tk : TA) : TI := fun σ H R => ta σ H fun vs H1 => tk σ H1 fun zs H2 => ∃ (a : Addr) (xs : List V) (c : Int), vs = [.ref a] ∧ zs = [.int c] ∧ SqL K H2 a xs ∧ -1000000 ≤ c ∧ c ≤ 1000000 ∧ R (Iteo K a c) H2
theorem pi_enumS {X : Cx} {e : Expr} {kws : List Keyword} {ta tk : TA} {p pos tpos : Pos} {elts : List Expr} {kk : Nat} (hg : Gl X "enumerate") (hm : X.mg "enumerate" = none) (ha : PA X [e] ta) (hk : PK X kws tk)
    (hall : (backToKw pos (keywordEach kws X.env)).all (·.1.isSome) = true := by rfl) (hks : (backToKw pos (keywordEach kws X.env)).filterMap (·.1) = [Str.ofString "start"] := by rfl)
    (hpl : ((backTo pos (starEach [e] X.env)).any (·.1) || (backToKw pos (keywordEach kws X.env)).any (·.1.isNone)) = false := by rfl) (hs : backTo pos (starEach [e] X.env) = [(false, eval e X.env)] := by rfl) :
    PI X (.Tuple elts kk tpos) (.Call (.Name "enumerate" p) [e] kws pos) (iEnumS X.K ta tk) := by
  refine ⟨fun pins s σ H R I h => ?_⟩
  refine wpAny_Call_Name_kw (ld_blt I hg hm boot_enumerate ?_)
  have ha' := fun Q hQ => ha.run pos pins s σ H Q I hQ
  rw [hs] at ha' hpl ⊢
  refine PySem.W.callWith_of (P := fun _ => True) hpl (fun h _ => ⟨.machine, .inr (.inl rfl), .of_pure rfl⟩) (evalArgs_kwB hall (thn (ha' _ h) fun us s1 ⟨vs, H1, I1, r1, q1⟩ => thn (hk.run pos pins s1 σ H1 _ I1 q1) fun ws s2 ⟨zs, H2, I2, r2, q2⟩ => ⟨trivial, ?_⟩))
  rw [hks]
  obtain ⟨a, xs, c, ex, ez, hq, c0, c1, q⟩ := q2
  subst ex ez
  cases r1 with
  | cons r rr =>
    cases rr
    cases r
    cases r2 with
    | cons r' rr' =>
      cases rr'
      obtain ⟨t, rfl⟩ := r'
      obtain ⟨its, rv, p', hz⟩ := I2.list hq
      refine enum_begins_start (begins_list a its.toArray) p'.isList (by omega) (by omega) fun h' he ho hsz hkp => wpAny_pyIter_enum he ?_
      have I3 : Inv X pins σ H2 { s2 with heap := h' } := I2.kept (t' := s2.toks) hkp
      refine ⟨s2.heap.objs.size + 1, [s2.heap.objs.size + 1, s2.heap.objs.size], _, _, H2, rfl, I3, turn_enumS a _ _ c, ⟨⟨.none, by simpa using he⟩, ⟨_, ho, rfl, rfl⟩, Nat.succ_ne_self _⟩, fun b hb => ?_, q⟩
      have hle : s2.heap.objs.size ≤ b := by
        rcases List.mem_cons.mp hb with z | z
        · rw [z]; exact Nat.le_add_right _ _
        · rw [List.mem_singleton.mp z]; exact Nat.le_refl _
      exact I2.fpOk hle (I2.hok.fresh hle)
theorem pi_enumSK {X : Cx} (K : PySem.W.Frag) {e : Expr} {kws : List Keyword} {ta tk : TA} {p pos tpos : Pos} {elts : List Expr} {kk : Nat} (hg : Gl X "enumerate") (hm : X.mg "enumerate" = none) (ha : PA X [e] ta) (hk : PK X kws tk) (hK : X.K = K := by rfl)
    (hall : (backToKw pos (keywordEach kws X.env)).all (·.1.isSome) = true := by rfl) (hks : (backToKw pos (keywordEach kws X.env)).filterMap (·.1) = [Str.ofString "start"] := by rfl)
    (hpl : ((backTo pos (starEach [e] X.env)).any (·.1) || (backToKw pos (keywordEach kws X.env)).any (·.1.isNone)) = false := by rfl) (hs : backTo pos (starEach [e] X.env) = [(false, eval e X.env)] := by rfl) :
    PI X (.Tuple elts kk tpos) (.Call (.Name "enumerate" p) [e] kws pos) (iEnumS K ta tk) := hK ▸ pi_enumS hg hm ha hk hall hks hpl hs
section
variable {K : PySem.W.Frag} {σ : L2.St} {H : Hp} {ta tk : TA} {R : L2.It → Hp → Prop} {a : Addr} {xs : List V} {c : Int}
theorem r_iEnumS (h : ta σ H fun vs H1 => tk σ H1 fun zs H2 => ∃ (a : Addr) (xs : List V) (c : Int), vs = [.ref a] ∧ zs = [.int c] ∧ SqL K H2 a xs ∧ -1000000 ≤ c ∧ c ≤ 1000000 ∧ R (Iteo K a c) H2) : iEnumS K ta tk σ H R := h
theorem walk_enumS : Walk (Iteo K a c) xs.length (fun H => SqL K H a xs) (YPair (fun i => some (.int (c + (i : Nat)))) (fun i => xs[i]?)) :=
  ⟨fun i _ hi q => ⟨xs, xs[i], q, by simp [hi]⟩, fun _ q => ⟨xs, q, rfl⟩, fun i H v H' _ q ⟨T, x, e1, e2, e3, e4⟩ => ⟨T, _, x, e1, e2, e3, rfl, e4 xs q⟩⟩
end
end Xk
local macro_rules | `(tactic| fail "ww1") => `(tactic| with_reducible refine Xk.r_iEnumS ?_)

namespace My
/-! ### sorted lists -/
def ins (x : Int) : List Int → List Int
  | [] => [x]
  | y :: r => if x ≤ y then x :: y :: r else y :: ins x r
def srt : List Int → List Int
  | [] => []
  | x :: r => ins x (srt r)
theorem ins_perm (x : Int) : ∀ l : List Int, (ins x l).Perm (x :: l)
  | [] => List.Perm.refl _
  | y :: r => by
    unfold ins
    split
    · exact List.Perm.refl _
    · exact ((ins_perm x r).cons y).trans (List.Perm.swap x y r)
theorem srt_perm : ∀ l : List Int, (srt l).Perm l
  | [] => List.Perm.refl _
  | x :: r => (ins_perm x (srt r)).trans ((srt_perm r).cons x)
theorem ins_up (x : Int) : ∀ l : List Int, l.Pairwise (· ≤ ·) → (ins x l).Pairwise (· ≤ ·)
  | [], _ => List.pairwise_singleton _ _
  | y :: r, h => by
    have h1 := List.pairwise_cons.mp h
    unfold ins
    split
    · rename_i hxy
      exact List.pairwise_cons.mpr ⟨fun z hz => by
        rcases List.mem_cons.mp hz with e | e
        · rw [e]; exact hxy
        · exact Int.le_trans hxy (h1.1 z e), h⟩
    · refine List.pairwise_cons.mpr ⟨fun z hz => ?_, ins_up x r h1.2⟩
      rcases List.mem_cons.mp ((ins_perm x r).mem_iff.mp hz) with e | e
      · rw [e]; omega
      · exact h1.1 z e
theorem srt_up : ∀ l : List Int, (srt l).Pairwise (· ≤ ·)
  | [] => List.Pairwise.nil
  | x :: r => ins_up x _ (srt_up r)
theorem up_unique : ∀ {l m : List Int}, l.Perm m → l.Pairwise (· ≤ ·) → m.Pairwise (· ≤ ·) → l = m
  | [], m, h, _, _ => (h.nil_eq).symm ▸ rfl
  | x :: r, m, h, h1, h2 => by
    cases m with
    | nil => exact absurd h.eq_nil (by simp)
    | cons y t =>
      have a1 := List.pairwise_cons.mp h1
      have a2 := List.pairwise_cons.mp h2
      have e : x = y := by
        have hx : x ∈ y :: t := h.mem_iff.mp List.mem_cons_self
        have hy : y ∈ x :: r := h.mem_iff.mpr List.mem_cons_self
        rcases List.mem_cons.mp hx with q | q
        · exact q
        · rcases List.mem_cons.mp hy with q' | q'
          · exact q'.symm
          · have := a1.1 y q'; have := a2.1 x q; omega
      subst e
      rw [up_unique ((List.perm_cons x).mp h) a1.2 a2.2]
theorem srt_is {l m : List Int} (h : m.Perm l) (u : m.Pairwise (· ≤ ·)) : m = srt l := up_unique (h.trans (srt_perm l).symm) u (srt_up l)
theorem srt_len (l : List Int) : (srt l).length = l.length := (srt_perm l).length_eq
/-- the values at the places i to j sorted -/
def seg (l : List Int) (i j : Nat) : List Int := l.take (i - 1) ++ srt ((l.drop (i - 1)).take (j - (i - 1))) ++ l.drop j
theorem seg_perm {l : List Int} {i j : Nat} (h1 : i ≤ j) (_h2 : j ≤ l.length) : (seg l i j).Perm l := by
  unfold seg
  have e : l = l.take (i - 1) ++ (l.drop (i - 1)).take (j - (i - 1)) ++ l.drop j := by
    conv => lhs; rw [← List.take_append_drop (i - 1) l, ← List.take_append_drop (j - (i - 1)) (l.drop (i - 1)), List.drop_drop]
    rw [List.append_assoc, show i - 1 + (j - (i - 1)) = j by omega]
  conv => rhs; rw [e]
  exact ((srt_perm _).append_left _).append_right _
theorem seg_len {l : List Int} {i j : Nat} (h1 : i ≤ j) (h2 : j ≤ l.length) : (seg l i j).length = l.length := (seg_perm h1 h2).length_eq
abbrev Cmd := Nat × Nat
def step (l : List Int) (c : Cmd) : List Int := seg l c.1 c.2
def runM (l : List Int) (cs : List Cmd) : List Int := cs.foldl step l
/-- the commands fit rows of n places -/
def Fits (n : Nat) (cs : List Cmd) : Prop := ∀ c ∈ cs, 1 ≤ c.1 ∧ c.1 ≤ c.2 ∧ c.2 ≤ n
theorem runM_perm : ∀ (cs : List Cmd) (l : List Int), Fits l.length cs → (runM l cs).Perm l
  | [], l, _ => List.Perm.refl l
  | c :: r, l, h => by
    have hc := h c List.mem_cons_self
    have p := seg_perm hc.2.1 hc.2.2
    refine List.Perm.trans (runM_perm r (step l c) ?_) p
    show Fits (seg l c.1 c.2).length r
    rw [p.length_eq]
    exact fun d hd => h d (List.mem_cons_of_mem _ hd)
theorem runM_len {cs : List Cmd} {l : List Int} (h : Fits l.length cs) : (runM l cs).length = l.length := (runM_perm cs l h).length_eq
theorem runM_snoc (l : List Int) (cs : List Cmd) (c : Cmd) : runM l (cs ++ [c]) = step (runM l cs) c := by unfold runM; rw [List.foldl_append]; rfl
theorem runM_app (l : List Int) (cs ds : List Cmd) : runM l (cs ++ ds) = runM (runM l cs) ds := List.foldl_append ..
theorem Fits.take {n k : Nat} {cs : List Cmd} (h : Fits n cs) : Fits n (cs.take k) := fun c hc => h c (List.mem_of_mem_take hc)
theorem Fits.drop {n k : Nat} {cs : List Cmd} (h : Fits n cs) : Fits n (cs.drop k) := fun c hc => h c (List.mem_of_mem_drop hc)
end My
namespace My
/-- whether some command holds both this place and the next one -/
def lnk (cs : List Cmd) (p : Nat) : Bool := cs.any fun c => decide (c.1 ≤ p) && decide (p < c.2)
/-- the flags of the places 1 to n -/
def flg (n : Nat) (cs : List Cmd) : List Bool := (List.range n).map fun k => lnk cs (k + 1)
/-- blocks so far: closed ones, and where the open one begins, behind i places -/
def blkU (cs : List Cmd) : Nat → List Cmd × Nat
  | 0 => ([], 1)
  | i + 1 => if lnk cs (i + 1) then blkU cs i else ((blkU cs i).1 ++ [((blkU cs i).2, i + 1)], i + 2)
def blkM (n : Nat) (cs : List Cmd) : List Cmd := (blkU cs n).1
theorem flg_len (n : Nat) (cs : List Cmd) : (flg n cs).length = n := by simp [flg]
theorem flg_at {n : Nat} {cs : List Cmd} {i : Nat} (h : i < (flg n cs).length) : (flg n cs)[i] = lnk cs (i + 1) := by simp [flg]
end My
namespace My
open L2
theorem set_fun {α : Type} (f g : Nat → α) {n k : Nat} {v : α} (h : ∀ i, i < n → g i = if i = k then v else f i) : ((List.range n).map f).set k v = (List.range n).map g := by
  refine List.ext_getElem (by simp) fun i h1 h2 => ?_
  have hi : i < n := by simpa using h2
  rw [List.getElem_set, List.getElem_map, List.getElem_map, List.getElem_range, h i hi]
  by_cases e : k = i
  · rw [if_pos e, if_pos e.symm]
  · rw [if_neg e, if_neg fun z => e z.symm]
theorem lnk_snoc (cs : List Cmd) (c : Cmd) (p : Nat) : lnk (cs ++ [c]) p = (lnk cs p || (decide (c.1 ≤ p) && decide (p < c.2))) := by
  unfold lnk; rw [List.any_append]; simp
/-- flags amid the walk over a command -/
def flgU (n : Nat) (cs : List Cmd) (c : Cmd) (j : Nat) : List V := (List.range n).map fun i => V.bl (lnk cs (i + 1) || (decide (c.1 ≤ i + 1) && decide (i + 1 < c.1 + j)))
theorem flgU_0 (n : Nat) (cs : List Cmd) (c : Cmd) : flgU n cs c 0 = (flg n cs).map V.bl := by
  unfold flgU flg
  rw [List.map_map]
  refine List.map_congr_left fun i _ => ?_
  have : (decide (c.1 ≤ i + 1) && decide (i + 1 < c.1 + 0)) = false := by
    by_cases h : c.1 ≤ i + 1
    · rw [decide_eq_false (by omega : ¬ i + 1 < c.1 + 0)]; simp
    · rw [decide_eq_false h]; rfl
  rw [this]; simp
theorem flgU_end (n : Nat) (cs : List Cmd) (c : Cmd) (h : c.1 ≤ c.2) : flgU n cs c (c.2 - c.1) = (flg n (cs ++ [c])).map V.bl := by
  unfold flgU flg
  rw [List.map_map]
  refine List.map_congr_left fun i _ => ?_
  show V.bl _ = V.bl (lnk (cs ++ [c]) (i + 1))
  rw [lnk_snoc, show c.1 + (c.2 - c.1) = c.2 by omega]
theorem flgU_set (n : Nat) (cs : List Cmd) (c : Cmd) (j : Nat) (h1 : 1 ≤ c.1) : (flgU n cs c j).set (c.1 + j - 1) (V.bl true) = flgU n cs c (j + 1) := by
  unfold flgU
  refine set_fun _ _ fun i hi => ?_
  by_cases e : i = c.1 + j - 1
  · subst e
    rw [if_pos rfl, decide_eq_true (by omega : c.1 ≤ c.1 + j - 1 + 1), decide_eq_true (by omega : c.1 + j - 1 + 1 < c.1 + (j + 1))]; simp
  · rw [if_neg e]
    have : decide (i + 1 < c.1 + (j + 1)) = decide (i + 1 < c.1 + j) ∨ ¬ c.1 ≤ i + 1 := by
      by_cases g : c.1 ≤ i + 1
      · left; exact decide_eq_decide.mpr ⟨fun _ => by omega, fun _ => by omega⟩
      · right; exact g
    rcases this with g | g
    · rw [g]
    · rw [decide_eq_false g]; rfl
theorem flgU_len (n : Nat) (cs : List Cmd) (c : Cmd) (j : Nat) : (flgU n cs c j).length = n := by simp [flgU]
theorem flg_nil (n : Nat) : (List.replicate n [V.bl false]).flatten = (flg n []).map V.bl := by
  unfold flg lnk
  rw [List.map_map]
  induction n with
  | zero => rfl
  | succ n ih =>
    rw [List.replicate_succ', List.flatten_append, ih, List.range_succ, List.map_append]; rfl
end My
namespace My
/-- commands as rows of two -/
def rowsC (cs : List Cmd) : List (List Int) := cs.map fun c => [((c.1 : Nat) : Int), ((c.2 : Nat) : Int)]
theorem rowsC_app (a b : List Cmd) : rowsC (a ++ b) = rowsC a ++ rowsC b := List.map_append
/-- the blocks up to place p + 1 -/
def blkP (cs : List Cmd) (p : Nat) : List Cmd := (blkU cs p).1 ++ [((blkU cs p).2, p + 1)]
theorem blkP_yes {cs : List Cmd} {p : Nat} (h : lnk cs (p + 1) = true) : blkP cs (p + 1) = (blkU cs p).1 ++ [((blkU cs p).2, p + 2)] := by
  have e : blkU cs (p + 1) = blkU cs p := by show (if lnk cs (p + 1) then _ else _) = _; rw [if_pos h]
  unfold blkP; rw [e]
theorem blkP_no {cs : List Cmd} {p : Nat} (h : ¬ lnk cs (p + 1) = true) : blkP cs (p + 1) = blkP cs p ++ [(p + 2, p + 2)] := by
  have e : blkU cs (p + 1) = ((blkU cs p).1 ++ [((blkU cs p).2, p + 1)], p + 2) := by show (if lnk cs (p + 1) then _ else _) = _; rw [if_neg h]
  unfold blkP; rw [e]
theorem blkP_end {cs : List Cmd} {p : Nat} (h : Fits (p + 1) cs) : blkP cs p = blkM (p + 1) cs := by
  have hl : ¬ lnk cs (p + 1) = true := by
    unfold lnk
    rw [List.any_eq_true]
    rintro ⟨c, hc, e⟩
    have := (h c hc).2.2
    simp at e
    omega
  unfold blkM blkP
  show _ = (if lnk cs (p + 1) then blkU cs p else ((blkU cs p).1 ++ [((blkU cs p).2, p + 1)], p + 2)).1
  rw [if_neg hl]
theorem blkP_len (cs : List Cmd) : ∀ p, (blkP cs p).length ≤ p + 1
  | 0 => by show 1 ≤ 1; omega
  | p + 1 => by
    by_cases h : lnk cs (p + 1) = true
    · have := blkP_len cs p
      rw [blkP_yes h]
      unfold blkP at this
      rw [List.length_append] at this ⊢
      simp only [List.length_singleton] at this ⊢
      omega
    · have := blkP_len cs p
      rw [blkP_no h, List.length_append]
      simp only [List.length_singleton]
      omega
/-- the hits of a place among the first j commands -/
def hitU (cs : List Cmd) (p j : Nat) : List Cmd := (cs.take j).filter fun c => decide (c.1 ≤ p) && decide (p < c.2)
theorem hit_nil (cs : List Cmd) (p : Nat) : hitU cs p cs.length = [] ↔ ¬ lnk cs p = true := by
  unfold hitU lnk
  rw [List.take_of_length_le (Nat.le_refl _), List.filter_eq_nil_iff, List.any_eq_true]
  constructor
  · rintro h ⟨c, hc, e⟩; exact h c hc e
  · intro h c hc e; exact h ⟨c, hc, e⟩
theorem hit_succ {cs : List Cmd} {p j : Nat} (hj : j < cs.length) : hitU cs p (j + 1) = hitU cs p j ++ if (decide (cs[j].1 ≤ p) && decide (p < cs[j].2)) = true then [cs[j]] else [] := by
  unfold hitU
  rw [List.take_add_one, List.getElem?_eq_getElem hj, List.filter_append]
  show _ ++ List.filter _ [cs[j]] = _
  by_cases g : (decide (cs[j].1 ≤ p) && decide (p < cs[j].2)) = true
  · rw [if_pos g, List.filter_cons_of_pos (p := fun c : Cmd => decide (c.1 ≤ p) && decide (p < c.2)) g]; rfl
  · rw [if_neg g, List.filter_cons_of_neg (p := fun c : Cmd => decide (c.1 ≤ p) && decide (p < c.2)) g]; rfl
theorem hit_len (cs : List Cmd) (p j : Nat) : (hitU cs p j).length ≤ j := by
  unfold hitU
  exact Nat.le_trans (List.length_filter_le _ _) (by rw [List.length_take]; omega)
end My
namespace L32
open PySem PySem.Spec PyProof.Rows L2 Xk
def topS (i : Nat) : Stmt := PySem.Challenge.pw_sortstretches_k32_blocks_of_scripts.main.body.getD i (.Pass ⟨0, 0, 0, 0⟩)
abbrev s_check_size : Stmt := topS 5
theorem sc_check_size : FnScope ["size"] ["size"] (defScope s_check_size) := ⟨rfl, rfl, rfl, by decide +kernel, rfl, by decide +kernel, by decide +kernel⟩
abbrev s_check_script : Stmt := topS 6
theorem sc_check_script : FnScope ["size", "commands", "index", "first", "last"] ["size", "commands"] (defScope s_check_script) := ⟨rfl, rfl, rfl, by decide +kernel, rfl, by decide +kernel, by decide +kernel⟩
abbrev s_check_sized_script : Stmt := topS 7
theorem sc_check_sized_script : FnScope ["size", "commands"] ["size", "commands"] (defScope s_check_sized_script) := ⟨rfl, rfl, rfl, by decide +kernel, rfl, by decide +kernel, by decide +kernel⟩
abbrev s_linked_blocks : Stmt := topS 9
theorem sc_linked_blocks : FnScope ["size", "commands", "linked", "first", "last", "place", "found", "start", "goes_on"] ["size", "commands"] (defScope s_linked_blocks) := ⟨rfl, rfl, rfl, by decide +kernel, rfl, by decide +kernel, by decide +kernel⟩
abbrev s_blocks : Stmt := topS 10
theorem sc_blocks : FnScope ["size", "commands"] ["size", "commands"] (defScope s_blocks) := ⟨rfl, rfl, rfl, by decide +kernel, rfl, by decide +kernel, by decide +kernel⟩
abbrev s_law_pool : Stmt := topS 12
theorem sc_law_pool : FnScope ["script", "at", "cell"] ["script", "at"] (defScope s_law_pool) := ⟨rfl, rfl, rfl, by decide +kernel, rfl, by decide +kernel, by decide +kernel⟩
abbrev s_law_draw : Stmt := topS 13
theorem sc_law_draw : FnScope ["pool", "many", "drawn", "mixed"] ["pool", "many"] (defScope s_law_draw) := ⟨rfl, rfl, rfl, by decide +kernel, rfl, by decide +kernel, by decide +kernel⟩
abbrev s_law_steps : Stmt := topS 14
theorem sc_law_steps : FnScope ["pool", "wide", "most", "way", "found", "cut", "turn", "begin", "end"] ["pool", "wide", "most"] (defScope s_law_steps) := ⟨rfl, rfl, rfl, by decide +kernel, rfl, by decide +kernel, by decide +kernel⟩
abbrev s_law_blocks : Stmt := topS 15
theorem sc_law_blocks : FnScope ["wide", "steps_here", "found", "place", "begin", "end"] ["wide", "steps_here"] (defScope s_law_blocks) := ⟨rfl, rfl, rfl, by decide +kernel, rfl, by decide +kernel, by decide +kernel⟩
abbrev s_law_right : Stmt := topS 16
theorem sc_law_right : FnScope ["pool", "wide", "steps_here", "gaps", "kept", "due", "told", "turn", "pair", "gap"] ["pool"] (defScope s_law_right) := ⟨rfl, rfl, rfl, by decide +kernel, rfl, by decide +kernel, by decide +kernel⟩
abbrev s_law : Stmt := topS 17
theorem sc_law : FnScope ["script", "at", "pool", "turn"] ["script"] (defScope s_law) := ⟨rfl, rfl, rfl, by decide +kernel, rfl, by decide +kernel, by decide +kernel⟩
structure Txt (K : PySem.W.Frag) (mg : Str → Option Value) where
  check_size_a : Addr
  check_size_d : FuncData
  check_size_F : Fun K "check_size" "check_size" s_check_size check_size_a check_size_d
  check_size_b : Binds K check_size_d ["size"] []
  check_size_g : mg "check_size" = some (.ref check_size_a)
  check_script_a : Addr
  check_script_d : FuncData
  check_script_F : Fun K "check_script" "check_script" s_check_script check_script_a check_script_d
  check_script_b : Binds K check_script_d ["size", "commands"] []
  check_script_g : mg "check_script" = some (.ref check_script_a)
  check_sized_script_a : Addr
  check_sized_script_d : FuncData
  check_sized_script_F : Fun K "check_sized_script" "check_sized_script" s_check_sized_script check_sized_script_a check_sized_script_d
  check_sized_script_b : Binds K check_sized_script_d ["size", "commands"] []
  check_sized_script_g : mg "check_sized_script" = some (.ref check_sized_script_a)
  linked_blocks_a : Addr
  linked_blocks_d : FuncData
  linked_blocks_F : Fun K "linked_blocks" "linked_blocks" s_linked_blocks linked_blocks_a linked_blocks_d
  linked_blocks_b : Binds K linked_blocks_d ["size", "commands"] []
  linked_blocks_g : mg "linked_blocks" = some (.ref linked_blocks_a)
  blocks_a : Addr
  blocks_d : FuncData
  blocks_F : Fun K "blocks" "blocks" s_blocks blocks_a blocks_d
  blocks_b : Binds K blocks_d ["size", "commands"] []
  blocks_g : mg "blocks" = some (.ref blocks_a)
  law_pool_a : Addr
  law_pool_d : FuncData
  law_pool_F : Fun K "_law_pool" "_law_pool" s_law_pool law_pool_a law_pool_d
  law_pool_b : Binds K law_pool_d ["script", "at"] []
  law_pool_g : mg "_law_pool" = some (.ref law_pool_a)
  law_draw_a : Addr
  law_draw_d : FuncData
  law_draw_F : Fun K "_law_draw" "_law_draw" s_law_draw law_draw_a law_draw_d
  law_draw_b : Binds K law_draw_d ["pool", "many"] []
  law_draw_g : mg "_law_draw" = some (.ref law_draw_a)
  law_steps_a : Addr
  law_steps_d : FuncData
  law_steps_F : Fun K "_law_steps" "_law_steps" s_law_steps law_steps_a law_steps_d
  law_steps_b : Binds K law_steps_d ["pool", "wide", "most"] []
  law_steps_g : mg "_law_steps" = some (.ref law_steps_a)
  law_blocks_a : Addr
  law_blocks_d : FuncData
  law_blocks_F : Fun K "_law_blocks" "_law_blocks" s_law_blocks law_blocks_a law_blocks_d
  law_blocks_b : Binds K law_blocks_d ["wide", "steps_here"] []
  law_blocks_g : mg "_law_blocks" = some (.ref law_blocks_a)
  law_right_a : Addr
  law_right_d : FuncData
  law_right_F : Fun K "_law_right" "_law_right" s_law_right law_right_a law_right_d
  law_right_b : Binds K law_right_d ["pool"] []
  law_right_g : mg "_law_right" = some (.ref law_right_a)
  law_a : Addr
  law_d : FuncData
  law_F : Fun K "law" "law" s_law law_a law_d
  law_b : Binds K law_d ["script"] []
  law_g : mg "law" = some (.ref law_a)
  k_blocks_commands_size : KBinds K blocks_d ["size", "commands"] ["commands", "size"] (fun (us ws : List Value) => match us, ws with | [], [w0, w1] => [w1, w0] | _, _ => []) (fun (us ws : List V) => match us, ws with | [], [w0, w1] => [w1, w0] | _, _ => [])
  m_abs : mg "abs" = none
  m_enumerate : mg "enumerate" = none
  m_len : mg "len" = none
  m_max : mg "max" = none
  m_min : mg "min" = none
  m_range : mg "range" = none
  m_repr : mg "repr" = none
section
variable {P : Program} {w : World} {K : PySem.W.Frag} {mg : Str → Option Value} {base : Heap}
/-- at as stand rows -/
structure Rws (H : Hp) (as : List Addr) (ls : List (List Int)) : Prop where
  len : as.length = ls.length
  at_ : ∀ (i : Nat) (t : Addr), as[i]? = some t → ∃ l, ls[i]? = some l ∧ H t = some (.lst (l.map V.int))
theorem Rws.same {H H' : Hp} {as : List Addr} {ls : List (List Int)} (h : Rws H as ls) (s : Same H H') : Rws H' as ls :=
  ⟨h.len, fun i t e => let ⟨l, e1, e2⟩ := h.at_ i t e; ⟨l, e1, s _ _ e2⟩⟩
theorem Rws.nil {H : Hp} : Rws H [] [] := ⟨rfl, fun i t e => by simp at e⟩
theorem Rws.app {H : Hp} {ts us : List Addr} {cs ds : List (List Int)} (h : Rws H ts cs) (g : Rws H us ds) : Rws H (ts ++ us) (cs ++ ds) := by
  refine ⟨by rw [List.length_append, List.length_append, h.len, g.len], fun i p e => ?_⟩
  by_cases q : i < ts.length
  · rw [List.getElem?_append_left q] at e
    obtain ⟨c, e1, e2⟩ := h.at_ i p e
    exact ⟨c, by rw [List.getElem?_append_left (h.len ▸ q)]; exact e1, e2⟩
  · rw [List.getElem?_append_right (by omega)] at e
    obtain ⟨c, e1, e2⟩ := g.at_ _ p e
    exact ⟨c, by rw [List.getElem?_append_right (by have := h.len; omega), ← h.len]; exact e1, e2⟩
theorem Rws.one {H : Hp} {t : Addr} {l : List Int} (h : H t = some (.lst (l.map V.int))) : Rws H [t] [l] := ⟨rfl, fun i p e => by
  cases i with
  | zero => cases e; exact ⟨l, rfl, h⟩
  | succ i => simp at e⟩
theorem Rws.idx {H : Hp} {as : List Addr} {ls : List (List Int)} (h : Rws H as ls) {i : Nat} (hi : i < ls.length) : ∃ t, as[i]? = some t ∧ H t = some (.lst (ls[i].map V.int)) := by
  have hi' : i < as.length := by rw [h.len]; exact hi
  obtain ⟨c, e1, e2⟩ := h.at_ i _ (List.getElem?_eq_getElem hi')
  rw [List.getElem?_eq_getElem hi] at e1
  cases e1
  exact ⟨_, List.getElem?_eq_getElem hi', e2⟩
/-- kept if all rows are new and only what was there before, or p, is written -/
theorem Rws.upd_ {H : Hp} {as : List Addr} {ls : List (List Int)} {p : Addr} {o : HO} (h : Rws H as ls) (n : p ∉ as) : Rws (upd H p o) as ls :=
  ⟨h.len, fun i t e => let ⟨l, e1, e2⟩ := h.at_ i t e; ⟨l, e1, upd_to (fun q => n (q ▸ List.mem_of_getElem? e)) e2⟩⟩
open My
/-- at ts stand the commands cs, as tuples -/
structure Cm (H : Hp) (ts : List Addr) (cs : List Cmd) : Prop where
  len : ts.length = cs.length
  at_ : ∀ (i : Nat) (t : Addr), ts[i]? = some t → ∃ c, cs[i]? = some c ∧ H t = some (.tup [.int (c.1 : Nat), .int (c.2 : Nat)])
theorem Cm.same {H H' : Hp} {ts : List Addr} {cs : List Cmd} (h : Cm H ts cs) (s : Same H H') : Cm H' ts cs :=
  ⟨h.len, fun i t e => let ⟨c, e1, e2⟩ := h.at_ i t e; ⟨c, e1, s _ _ e2⟩⟩
theorem Cm.put {H : Hp} {ts : List Addr} {cs : List Cmd} {p : Addr} {xs : List V} {o : HO} (h : Cm H ts cs) (hp : H p = some (.lst xs)) : Cm (upd H p o) ts cs :=
  ⟨h.len, fun i t e => let ⟨c, e1, e2⟩ := h.at_ i t e; ⟨c, e1, upd_to (ne_of e2 hp (by intro z; cases z)) e2⟩⟩
theorem Cm.nil {H : Hp} : Cm H [] [] := ⟨rfl, fun i t e => by simp at e⟩
theorem Cm.snoc {H : Hp} {ts : List Addr} {cs : List Cmd} {t : Addr} {c : Cmd} (h : Cm H ts cs) (e : H t = some (.tup [.int (c.1 : Nat), .int (c.2 : Nat)])) : Cm H (ts ++ [t]) (cs ++ [c]) := by
  refine ⟨by rw [List.length_append, List.length_append, h.len]; rfl, fun i t' e' => ?_⟩
  by_cases q : i < ts.length
  · rw [List.getElem?_append_left q] at e'
    obtain ⟨c', e1, e2⟩ := h.at_ i t' e'
    exact ⟨c', by rw [List.getElem?_append_left (h.len ▸ q)]; exact e1, e2⟩
  · rw [List.getElem?_append_right (by omega)] at e'
    have e3 : i - ts.length = 0 := by
      cases hh : i - ts.length with
      | zero => rfl
      | succ k => rw [hh] at e'; simp at e'
    rw [e3] at e'
    cases e'
    exact ⟨c, by rw [List.getElem?_append_right (by have := h.len; omega), ← h.len, e3]; rfl, e⟩
theorem Cm.idx {H : Hp} {ts : List Addr} {cs : List Cmd} (h : Cm H ts cs) {i : Nat} (hi : i < cs.length) : ∃ t, ts[i]? = some t ∧ H t = some (.tup [.int (cs[i].1 : Nat), .int (cs[i].2 : Nat)]) := by
  have hi' : i < ts.length := by rw [h.len]; exact hi
  obtain ⟨c, e1, e2⟩ := h.at_ i _ (List.getElem?_eq_getElem hi')
  rw [List.getElem?_eq_getElem hi] at e1
  cases e1
  exact ⟨_, List.getElem?_eq_getElem hi', e2⟩
theorem Cm.take {H : Hp} {ts : List Addr} {cs : List Cmd} (h : Cm H ts cs) (k : Nat) : Cm H (ts.take k) (cs.take k) := by
  refine ⟨by rw [List.length_take, List.length_take, h.len], fun i t e => ?_⟩
  rw [List.getElem?_take] at e
  split at e
  · rename_i hk
    obtain ⟨c, e1, e2⟩ := h.at_ i t e
    exact ⟨c, by rw [List.getElem?_take, if_pos hk]; exact e1, e2⟩
  · cases e
theorem Cm.drop {H : Hp} {ts : List Addr} {cs : List Cmd} (h : Cm H ts cs) (k : Nat) : Cm H (ts.drop k) (cs.drop k) := by
  refine ⟨by rw [List.length_drop, List.length_drop, h.len], fun i t e => ?_⟩
  rw [List.getElem?_drop] at e
  obtain ⟨c, e1, e2⟩ := h.at_ _ t e
  exact ⟨c, by rw [List.getElem?_drop]; exact e1, e2⟩
/-! the data of a script -/
def dC1 (c : Cmd) : PyData := .tuple [.int (c.1 : Nat), .int (c.2 : Nat)]
abbrev dC (cs : List Cmd) : PyData := .list (cs.map dC1)
theorem dp_cmAll {K : PySem.W.Frag} {H : Hp} : ∀ {ts : List Addr} {cs : List Cmd}, Cm H ts cs → DpAll K H (ts.map V.ref) (cs.map dC1)
  | [], [], _ => .nil
  | [], _ :: _, h => nomatch h.len
  | _ :: _, [], h => nomatch h.len
  | t :: ts, c :: cs, h => by
    obtain ⟨c', e1, e2⟩ := h.at_ 0 t rfl
    cases e1
    refine .cons (.tup (sqT e2) (.cons (.int _) (.cons (.int _) .nil))) (dp_cmAll ⟨by have := h.len; simpa using this, fun i t' e => ?_⟩)
    exact h.at_ (i + 1) t' e
theorem dp_cm {K : PySem.W.Frag} {H : Hp} {a : Addr} {ts : List Addr} {cs : List Cmd} (h : SqL K H a (ts.map V.ref)) (hc : Cm H ts cs) : Dp K H (.ref a) (dC cs) := .lst h (dp_cmAll hc)
theorem lay_cm : ∀ cs : List Cmd, PyData.canLayAll0 (cs.map dC1) = true
  | [] => rfl
  | _ :: r => lay_cm r
theorem depth_cm : ∀ cs : List Cmd, PyData.depthAll (cs.map dC1) ≤ 1
  | [] => by decide
  | c :: r => by
    have := depth_cm r
    show max 1 (PyData.depthAll (r.map dC1)) ≤ 1
    omega
theorem depth_dC (cs : List Cmd) : (dC cs).depth ≤ 2 := by
  have := depth_cm cs
  show PyData.depthAll (cs.map dC1) + 1 ≤ 2
  omega
theorem shaped_dC (cs : List Cmd) : SeqAt.shaped (dC cs) = true := by
  unfold SeqAt.shaped
  rw [Bool.and_eq_true]
  refine ⟨lay_cm cs, ?_⟩
  have := depth_dC cs
  rw [decide_eq_true_eq]
  omega
theorem shaped_nil : SeqAt.shaped (.list []) = true := rfl
theorem r_neNilC {K : PySem.W.Frag} {H : Hp} {a b : Addr} {ts : List Addr} {cs : List Cmd} {Q : VK} (h : SqL K H a (ts.map V.ref)) (hc : Cm H ts cs) (g : SqL K H b []) (q : Q (.bl (!decide (cs = []))) H) : rNeD K (.ref a) (.ref b) H Q := by
  refine ⟨_, _, dp_cm h hc, .lst g .nil, shaped_dC cs, shaped_nil, ?_⟩
  have e : PyData.eqv (dC cs) (.list []) = decide (cs = []) := by cases cs <;> rfl
  rw [e]; exact q
theorem sh_dC {cs : List Cmd} {n : Nat} (h : ∀ c ∈ cs, c.1 ≤ n ∧ c.2 ≤ n) (hn : n ≤ 100000) : Sh (cs.length * 25 + 2) (dC cs) := by
  have := Sh.list (b := 23) (ds := cs.map dC1) fun d hd => by
    obtain ⟨c, hc, rfl⟩ := List.mem_map.mp hd
    have hb := h c hc
    refine (Sh.tuple (b := 8) fun e he => ?_).mono (by show 2 * (8 + 2) + 3 ≤ 23; decide)
    rcases List.mem_cons.mp he with e1 | e1
    · rw [e1]; exact (Sh.int (k := 7) (by decide) (by omega) (by decide)).mono (by decide)
    · rw [List.mem_singleton.mp e1]; exact (Sh.int (k := 7) (by decide) (by omega) (by decide)).mono (by decide)
  rw [List.length_map] at this
  exact this
theorem eqv_cs : ∀ cs ds : List Cmd, PyData.eqvAll (cs.map dC1) (ds.map dC1) = decide (cs = ds)
  | [], [] => rfl
  | [], _ :: _ => rfl
  | _ :: _, [] => rfl
  | c :: r, d :: t => by
    show (((((c.1 : Nat) : Int) == ((d.1 : Nat) : Int)) && ((((c.2 : Nat) : Int) == ((d.2 : Nat) : Int)) && true)) && PyData.eqvAll (r.map dC1) (t.map dC1)) = _
    rw [eqv_cs r t]
    obtain ⟨a, b⟩ := c
    obtain ⟨a', b'⟩ := d
    by_cases e : a = a' <;> by_cases g : b = b' <;> by_cases f : r = t <;> simp [e, g, f] <;> omega
theorem r_eqCs {K : PySem.W.Frag} {H : Hp} {a b : Addr} {ts us : List Addr} {cs ds : List Cmd} {Q : VK} (h : SqL K H a (ts.map V.ref)) (hc : Cm H ts cs) (g : SqL K H b (us.map V.ref)) (gc : Cm H us ds) (q : Q (.bl (decide (cs = ds))) H) : rEqD K (.ref a) (.ref b) H Q :=
  ⟨_, _, dp_cm h hc, dp_cm g gc, shaped_dC cs, shaped_dC ds, by rw [show PyData.eqv (dC cs) (dC ds) = decide (cs = ds) from eqv_cs cs ds]; exact q⟩
theorem r_neCs {K : PySem.W.Frag} {H : Hp} {a b : Addr} {ts us : List Addr} {cs ds : List Cmd} {Q : VK} (h : SqL K H a (ts.map V.ref)) (hc : Cm H ts cs) (g : SqL K H b (us.map V.ref)) (gc : Cm H us ds) (q : Q (.bl (!decide (cs = ds))) H) : rNeD K (.ref a) (.ref b) H Q :=
  ⟨_, _, dp_cm h hc, dp_cm g gc, shaped_dC cs, shaped_dC ds, by rw [show PyData.eqv (dC cs) (dC ds) = decide (cs = ds) from eqv_cs cs ds]; exact q⟩
section keep
variable {K : PySem.W.Frag} {H H' H1 : Hp} {Q : VK} {a b p r g : Addr} {o : HO} {ns : List Int} {m : Nat}
theorem n_sorted (h : SqL K H a (ns.map V.int)) (q : New Q H (.lst ((srt ns).map V.int))) : rSortedI K [.ref a] H Q := ⟨a, ns, rfl, h, fun ns' p hp hu np => by
  have e := srt_is hp hu
  subst e
  exact q p np⟩
theorem Rws.row {as : List Addr} {ls : List (List Int)} (h : Rws H as ls) {i : Nat} {t : Addr} {l : List Int} (e : as[i]? = some t) (g : ls[i]? = some l) : H t = some (.lst (l.map V.int)) := by
  obtain ⟨l', e1, e2⟩ := h.at_ i t e
  rw [g] at e1; cases e1; exact e2
theorem n_reprC {ts : List Addr} {cs : List Cmd} {n : Nat} (h : SqL K H a (ts.map V.ref)) (hc : Cm H ts cs) (hf : Fits n cs) (hn : n ≤ 100000) (hl : cs.length ≤ 600000) (q : Q (.str (dC cs).shown) H) : rReprD K [.ref a] H Q :=
  r_repr (d := dC cs) (dp_cm h hc) (Nat.le_trans (depth_dC cs) (by decide)) (sh_dC (n := n) (fun c hc => by have := hf c hc; omega) hn) (by omega) q
/-- rows written one by one into a new list -/
def RwI (H1 : Hp) (D : Addr) (ms : List (List Int)) (i : Nat) (H : Hp) : Prop := ∃ es : List Addr, es.length = i ∧ H D = some (.lst (es.map V.ref)) ∧ Same H1 H ∧ (∀ t ∈ es, H1 t = none ∧ t ≠ D) ∧ Rws H es (ms.take i)
theorem rwi_nil {D : Addr} {ms : List (List Int)} (nD : H1 D = none) : RwI H1 D ms 0 (upd H1 D (.lst [])) := ⟨[], rfl, upd_same, same_new nD, (fun t ht => by cases ht), Rws.nil⟩
theorem rwi_put {D : Addr} {ms : List (List Int)} {i : Nat} {l : List Int} (h : RwI H1 D ms i H) (nD : H1 D = none) (hl : ms[i]? = some l) (hi : i ≤ 100000) (s : Same H H') (n : H p = none) (hp : H' p = some (.lst (l.map V.int))) :
    ∃ acc, H' D = some (.lst acc) ∧ acc.length < sizeLine ∧ RwI H1 D ms (i + 1) (upd H' D (.lst (acc ++ [.ref p]))) := by
  obtain ⟨es, hel, hD, sk, hfe, hE⟩ := h
  have hi' : i < ms.length := (List.getElem?_eq_some_iff.mp hl).1
  have ei : ms[i] = l := (List.getElem?_eq_some_iff.mp hl).2
  have n5 := sk.free n
  have h5D : p ≠ D := (ne_of_none hD n).symm
  refine ⟨_, s _ _ hD, by rw [List.length_map, hel]; exact size_lt (by omega), es ++ [p], by rw [List.length_append, hel]; rfl, by rw [upd_same]; simp, same_old (sk.trans s) nD, fun t ht => ?_, ?_⟩
  · rcases List.mem_append.mp ht with z | z
    · exact hfe t z
    · rw [List.mem_singleton.mp z]; exact ⟨n5, h5D⟩
  · rw [take_one hi', ei]
    refine (Rws.app (hE.same s) (Rws.one hp)).upd_ fun hm => ?_
    rcases List.mem_append.mp hm with z | z
    · exact (hfe _ z).2 rfl
    · exact h5D (List.mem_singleton.mp z).symm
theorem rwi_end {D : Addr} {ms : List (List Int)} {n : Nat} (h : RwI H1 D ms n H) (e : n = ms.length) : ∃ es : List Addr, H D = some (.lst (es.map V.ref)) ∧ Same H1 H ∧ (∀ t ∈ es, H1 t = none) ∧ Rws H es ms := by
  obtain ⟨es, hel, hD, sk, hfe, hE⟩ := h
  rw [e, List.take_of_length_le (Nat.le_refl _)] at hE
  exact ⟨es, hD, sk, fun t ht => (hfe t ht).1, hE⟩
theorem cm_same {ts : List Addr} {cs : List Cmd} (s : Same H H') (h : Cm H ts cs) : Cm H' ts cs := h.same s
theorem rws_same {as : List Addr} {ls : List (List Int)} (s : Same H H') (h : Rws H as ls) : Rws H' as ls := h.same s
theorem cm_new {ts : List Addr} {cs : List Cmd} (np : H a = none) (h : Cm H ts cs) : Cm (upd H a o) ts cs := h.same (same_new np)
theorem rws_new {as : List Addr} {ls : List (List Int)} (np : H a = none) (h : Rws H as ls) : Rws (upd H a o) as ls := h.same (same_new np)
/-- commands written one by one into a new list -/
def CmI (H1 : Hp) (D : Addr) (ds : List Cmd) (i : Nat) (H : Hp) : Prop := ∃ es : List Addr, es.length = i ∧ H D = some (.lst (es.map V.ref)) ∧ Same H1 H ∧ (∀ t ∈ es, H1 t = none ∧ t ≠ D) ∧ Cm H es (ds.take i)
theorem cmi_nil {D : Addr} {ds : List Cmd} (nD : H1 D = none) : CmI H1 D ds 0 (upd H1 D (.lst [])) := ⟨[], rfl, upd_same, same_new nD, (fun t ht => by cases ht), Cm.nil⟩
theorem cmi_put {D : Addr} {ds : List Cmd} {i : Nat} {c : Cmd} (h : CmI H1 D ds i H) (nD : H1 D = none) (hl : ds[i]? = some c) (hi : i ≤ 100000) (s : Same H H') (n : H p = none) (hp : H' p = some (.tup [.int (c.1 : Nat), .int (c.2 : Nat)])) :
    ∃ acc, H' D = some (.lst acc) ∧ acc.length < sizeLine ∧ CmI H1 D ds (i + 1) (upd H' D (.lst (acc ++ [.ref p]))) := by
  obtain ⟨es, hel, hD, sk, hfe, hE⟩ := h
  have hi' : i < ds.length := (List.getElem?_eq_some_iff.mp hl).1
  have ei : ds[i] = c := (List.getElem?_eq_some_iff.mp hl).2
  have n5 := sk.free n
  have h5D : p ≠ D := (ne_of_none hD n).symm
  refine ⟨_, s _ _ hD, by rw [List.length_map, hel]; exact size_lt (by omega), es ++ [p], by rw [List.length_append, hel]; rfl, by rw [upd_same]; simp, same_old (sk.trans s) nD, fun t ht => ?_, ?_⟩
  · rcases List.mem_append.mp ht with z | z
    · exact hfe t z
    · rw [List.mem_singleton.mp z]; exact ⟨n5, h5D⟩
  · rw [take_one hi', ei]
    exact ((hE.same s).snoc hp).put (s _ _ hD)
theorem cmi_end {D : Addr} {ds : List Cmd} {n : Nat} (h : CmI H1 D ds n H) (e : n = ds.length) : ∃ es : List Addr, H D = some (.lst (es.map V.ref)) ∧ Same H1 H ∧ (∀ t ∈ es, H1 t = none) ∧ Cm H es ds := by
  obtain ⟨es, hel, hD, sk, hfe, hE⟩ := h
  rw [e, List.take_of_length_le (Nat.le_refl _)] at hE
  exact ⟨es, hD, sk, fun t ht => (hfe t ht).1, hE⟩
theorem last_at {as : List Addr} {t : Addr} : atI ((as ++ [t]).map V.ref) (-1) = some (.ref t) := by
  unfold atI ixN
  rw [if_neg (by omega), if_pos (by rw [List.length_map, List.length_append]; simp only [List.length_singleton]; omega)]
  show ((as ++ [t]).map V.ref)[((-1 : Int) + ((as ++ [t]).map V.ref).length).toNat]? = _
  rw [show ((-1 : Int) + (((as ++ [t]).map V.ref).length : Nat)).toNat = as.length by simp; omega]
  simp
theorem last_ix {as : List Addr} {t : Addr} : ixN ((as ++ [t]).map V.ref).length (-1) = some as.length := by
  unfold ixN
  rw [if_neg (by omega), if_pos (by rw [List.length_map, List.length_append]; simp only [List.length_singleton]; omega)]
  exact congrArg some (by simp; omega)
theorem last_set {as : List Addr} {t u : Addr} : ((as ++ [t]).map V.ref).set as.length (.ref u) = (as ++ [u]).map V.ref := by simp
end keep
local macro_rules | `(tactic| fail "kp") => `(tactic| with_reducible first
  | (apply cm_same; assumption; fail "kp")
  | (apply rws_same; assumption; fail "kp")
  | (apply cm_new; assumption; fail "kp")
  | (apply rws_new; assumption; fail "kp"))
/-- it stood not before -/
local macro_rules | `(tactic| fail "kpz") => `(tactic| with_reducible first
  | assumption
  | (apply L2.Same.free; assumption; fail "kpz"))
/-- the pool of draws: [great, seed, turn] -/
def Pol (H : Hp) (r : Addr) (m : Nat) : Prop := ∃ a b c : Int, H r = some (.lst [.int a, .int b, .int c]) ∧ 0 ≤ a ∧ 0 ≤ b ∧ b < 2 ^ 62 ∧ 0 ≤ c ∧ c ≤ m
section keepC
variable {K : PySem.W.Frag} {H H' H0 : Hp} {r p b a : Addr} {m : Nat} {o : HO}
theorem Pol.same (h : Pol H r m) (s : Same H H') : Pol H' r m := by
  obtain ⟨a, b, c, h1, h2⟩ := h
  exact ⟨a, b, c, s _ _ h1, h2⟩
theorem Pol.le {n : Nat} (h : Pol H r m) (e : m ≤ n) : Pol H r n := by
  obtain ⟨a, b, c, h1, h2, h3, h4, h5, h6⟩ := h
  exact ⟨a, b, c, h1, h2, h3, h4, h5, by omega⟩
theorem Pol.ne (h : Pol H r m) (n : H p = none) : p ≠ r := by
  obtain ⟨a, b, c, h1, h2⟩ := h
  exact (ne_of_none h1 n).symm
theorem Pol.free (h : Pol H' r m) (s : Sx r H H') (n : H' p = none) : H p = none := by
  obtain ⟨a, b, c, h1, h2⟩ := h
  exact s.free h1 n
theorem Pol.other (h : Pol H r m) (n : p ≠ r) : Pol (upd H p o) r m := by
  obtain ⟨a, b, c, h1, h2⟩ := h
  exact ⟨a, b, c, upd_to n.symm h1, h2⟩
theorem pol_n (n : H p = none) (h : Pol H r m) : p ≠ r := h.ne n
theorem pol_same (s : Same H H') (h : Pol H r m) : Pol H' r m := h.same s
theorem pol_new (np : H p = none) (h : Pol H r m) : Pol (upd H p o) r m := h.same (same_new np)
theorem pol_free (s : Sx r H H') (n : H' p = none) (h : Pol H' r m) : H p = none := h.free s n
theorem cm_sx {ts : List Addr} {cs : List Cmd} (s : Sx r H H') (hR : Pol H r m) (h : Cm H ts cs) : Cm H' ts cs := by
  obtain ⟨a, b, c, hr, _⟩ := hR
  exact ⟨h.len, fun i t e => let ⟨c, e1, e2⟩ := h.at_ i t e; ⟨c, e1, s _ _ (ne_of e2 hr (by intro z; cases z)) e2⟩⟩
theorem rws_sx {as : List Addr} {ls : List (List Int)} (s : Sx r H H') (n : ∀ t ∈ as, t ≠ r) (h : Rws H as ls) : Rws H' as ls :=
  ⟨h.len, fun i t e => let ⟨l, e1, e2⟩ := h.at_ i t e; ⟨l, e1, s _ _ (n t (List.mem_of_getElem? e)) e2⟩⟩
theorem sx_same (t : Same H H') (s : Sx r H0 H) : Sx r H0 H' := s.same t
theorem sx_trans (t : Sx r H H') (s : Sx r H0 H) : Sx r H0 H' := s.trans t
theorem sx_new (np : H p = none) (s : Sx r H0 H) : Sx r H0 (upd H p o) := s.same (same_new np)
end keepC
local macro_rules | `(tactic| fail "kp") => `(tactic| with_reducible first
  | (apply cm_sx; assumption; fail "kp"; fail "kp")
  | (apply rws_sx; assumption; assumption; fail "kp")
  | (apply pol_same; assumption; fail "kp")
  | exact Sx.refl
  | (apply pol_new; assumption; fail "kp")
  | (apply sx_new; assumption; fail "kp")
  | (apply sx_same; assumption; fail "kp")
  | (apply sx_trans; assumption; fail "kp"))
local macro_rules | `(tactic| fail "kpn") => `(tactic| (with_reducible apply pol_n; assumption; fail "kp"))
local macro_rules | `(tactic| fail "kpz") => `(tactic| (with_reducible apply pol_free; assumption; fail "kpz"; fail "kp"))
theorem dp_two {K : PySem.W.Frag} {H : Hp} {p a b : Addr} {d e : PyData} (h : H p = some (.lst [.ref a, .ref b])) (ha : Dp K H (.ref a) d) (hb : Dp K H (.ref b) e) : Dp K H (.ref p) (.list [d, e]) := .lst (sq h) (.cons ha (.cons hb .nil))
theorem n_repr2C {K : PySem.W.Frag} {H : Hp} {Q : VK} {p a b : Addr} {ts us : List Addr} {cs ds : List Cmd} {n : Nat} (h : H p = some (.lst [.ref a, .ref b])) (ha : SqL K H a (ts.map V.ref)) (hc : Cm H ts cs) (hb : SqL K H b (us.map V.ref)) (hd : Cm H us ds)
    (hf : ∀ c ∈ cs, c.1 ≤ n ∧ c.2 ≤ n) (hg : ∀ c ∈ ds, c.1 ≤ n ∧ c.2 ≤ n) (hn : n ≤ 1000) (hl : cs.length ≤ 1000) (hl2 : ds.length ≤ 1000) (q : Q (.str (PyData.list [dC cs, dC ds]).shown) H) : rReprD K [.ref p] H Q := by
  have shD := Sh.list (b := 26000) (ds := [dC cs, dC ds]) fun d hd => by
    rcases List.mem_cons.mp hd with e | e
    · rw [e]; exact (sh_dC (n := n) hf (by omega)).mono (by omega)
    · rw [List.mem_singleton.mp e]; exact (sh_dC (n := n) hg (by omega)).mono (by omega)
  have dep : (PyData.list [dC cs, dC ds]).depth ≤ 60 := by
    have h1 := depth_cm cs
    have h2 := depth_cm ds
    show max (PyData.depthAll (cs.map dC1) + 1) (max (PyData.depthAll (ds.map dC1) + 1) 0) + 1 ≤ 60
    omega
  exact r_repr (d := .list [dC cs, dC ds]) (dp_two h (dp_cm ha hc) (dp_cm hb hd)) dep shD (by show 2 * (26000 + 2) + 2 ≤ 16777216; decide) q
theorem blk_le {n : Nat} {cs : List Cmd} : ∀ {p : Nat}, p + 1 ≤ n → ∀ c ∈ blkP cs p, c.1 ≤ n ∧ c.2 ≤ n
  | 0, h, c, hc => by
    have : c = (1, 1) := List.mem_singleton.mp hc
    subst this; exact ⟨h, h⟩
  | p + 1, h, c, hc => by
    have ih := blk_le (n := n) (cs := cs) (p := p) (by omega)
    by_cases hl : lnk cs (p + 1) = true
    · rw [blkP_yes hl] at hc
      have ih' := fun c (hc : c ∈ (blkU cs p).1) => ih c (by unfold blkP; exact List.mem_append_left _ hc)
      rcases List.mem_append.mp hc with z | z
      · exact ih' c z
      · have e := List.mem_singleton.mp z
        have h2 := ih ((blkU cs p).2, p + 1) (by unfold blkP; exact List.mem_append_right _ (List.mem_singleton.mpr rfl))
        subst e; exact ⟨h2.1, h⟩
    · rw [blkP_no hl] at hc
      rcases List.mem_append.mp hc with z | z
      · exact ih c z
      · have e := List.mem_singleton.mp z
        subst e; exact ⟨h, h⟩
def sp_check_size (K : PySem.W.Frag) : Sp := fun vs H Q _ => ∃ (n : Nat), vs = [.int n] ∧ 1 ≤ n ∧ Q .non H
theorem ok_check_size (T : Txt K mg) : FnG P w K mg base CX0 1 T.check_size_a T.check_size_d ["size"] (sp_check_size K) := by
  refine okG T.check_size_F sc_check_size (fun vs H Q E h => ?_) (fun cdv A ou t H vs Q E hG hr h => ?_)
  · obtain ⟨_, rfl, _⟩ := h; rfl
  have nd := sc_check_size.nd
  obtain ⟨n, rfl, hn, q⟩ := h
  refine ⟨_, (pss_one (ps_if (pt_cmpR op_lt (pv 0) pe_int (nomark _))
        (pss_one ps_never)
        pss_nil)), ?_⟩
  fail "g"
  refine r_itDF (by omega) ?_
  fail "g"
  exact q
def sp_check_script (K : PySem.W.Frag) : Sp := fun vs H Q _ => ∃ (n : Nat) (b : Addr) (ts : List Addr) (cs : List Cmd), vs = [.int n, .ref b] ∧ SqL K H b (ts.map V.ref) ∧ Cm H ts cs ∧ Fits n cs ∧ ∀ H', Same H H' → Q .non H'
theorem ok_check_script (T : Txt K mg) : FnG P w K mg base CX0 1 T.check_script_a T.check_script_d ["size", "commands"] (sp_check_script K) := by
  refine okG T.check_script_F sc_check_script (fun vs H Q E h => ?_) (fun cdv A ou t H vs Q E hG hr h => ?_)
  · obtain ⟨_, _, _, _, rfl, _⟩ := h; rfl
  have nd := sc_check_script.nd
  obtain ⟨n, b, ts, cs, rfl, hS, hC, hF, q⟩ := h
  refine ⟨_, (pss_one (ps_for PassesOwn.never rfl (pi_enumK K (by rfl) T.m_enumerate (pa_cons (pv 1) pa_nil)) (pg_tupK K 2 rfl (pgs_cons (gset 2 nd) (pgs_cons (pg_tupK K 2 rfl (pgs_cons (gset 3 nd) (pgs_cons (gset 4 nd) pgs_nil))) pgs_nil)))
        (pss_one (ps_if (PW.pt (pw_or (pt_cmpR op_lt (pv 3) pe_int (nomark _)) (pw_or (pt_cmpR op_lt (pv 4) (pv 3) (nomark _)) (pw_or1 (pt_cmpR op_gt (pv 4) (pv 0) (nomark _))))))
        (pss_one ps_never)
        pss_nil)))), ?_⟩
  fail "g"
  refine forP (walk_enum (xs := ts.map V.ref)) (fun i σ' H' => ∃ y2 y3 y4, σ' = [some (.int n), some (.ref b), y2, y3, y4] ∧ Same H H') ⟨none, none, none, rfl, Same.refl H⟩ (fun i σ' H' _ p => ?_) (fun i σ' H' T1 x y hi p e1 e2 nT => ?_) (fun σ' H' p => ?_)
  · obtain ⟨_, _, _, _, s⟩ := p; exact s.seq hS
  · obtain ⟨y2, y3, y4, rfl, s⟩ := p
    cases e1
    have hi' : i < cs.length := by rw [← hC.len]; simpa using hi
    obtain ⟨t0, et, ht⟩ := hC.idx hi'
    simp only [List.getElem?_map, et] at e2
    cases e2
    have hc := hF cs[i] (List.getElem_mem hi')
    have s1 := s.trans (same_new (o := .tup [.int (i : Nat), .ref t0]) nT)
    have ht1 := s1 _ _ ht
    fail "g"
    refine r_itDF (by omega) ?_
    fail "g"
    refine r_itDF (by omega) ?_
    fail "g"
    refine r_itDF (by omega) ?_
    fail "g"
    exact ⟨_, _, _, rfl, s1⟩
  · obtain ⟨y2, y3, y4, rfl, s⟩ := p
    fail "g"
    exact q _ s
def sp_linked_blocks (K : PySem.W.Frag) : Sp := fun vs H Q _ => ∃ (n : Nat) (b : Addr) (ts : List Addr) (cs : List Cmd), vs = [.int n, .ref b] ∧ n ≤ 1000 ∧ SqL K H b (ts.map V.ref) ∧ Cm H ts cs ∧ Fits n cs ∧
  ∀ (H' : Hp) (p : Addr) (us : List Addr), Same H H' → H p = none → H' p = some (.lst (us.map V.ref)) → Cm H' us (blkM n cs) → Q (.ref p) H'
theorem ok_linked_blocks (T : Txt K mg) : FnG P w K mg base CX0 1 T.linked_blocks_a T.linked_blocks_d ["size", "commands"] (sp_linked_blocks K) := by
  refine okG T.linked_blocks_F sc_linked_blocks (fun vs H Q E h => ?_) (fun cdv A ou t H vs Q E hG hr h => ?_)
  · obtain ⟨_, _, _, _, rfl, _⟩ := h; rfl
  have nd := sc_linked_blocks.nd
  obtain ⟨n, b, ts, cs, rfl, hn, hB, hC, hF, q⟩ := h
  refine ⟨_, (pss_cons (sset 2 nd (pe_op op_rep (pe_lst (pa_cons pe_bl pa_nil)) (pv 0)))
      (pss_cons (ps_for PassesOwn.never rfl (pi_listK K (pv 1)) (pg_tupK K 2 rfl (pgs_cons (gset 3 nd) (pgs_cons (gset 4 nd) pgs_nil)))
        (pss_one (ps_for PassesOwn.never rfl (pi_range2 (by rfl) T.m_range (pa_cons (pv 3) (pa_cons (pv 4) pa_nil))) (gset 5 nd)
        (pss_one (ps_asg pe_bl (pg_sub (pv 2) (pe_op op_sub (pv 5) pe_int) set_list))))))
      (pss_cons (sset 6 nd (pe_lst pa_nil))
      (pss_cons (sset 7 nd pe_int)
      (pss_cons (ps_for PassesOwn.never rfl (pi_enumSK K (by rfl) T.m_enumerate (pa_cons (pv 2) pa_nil) (pk_cons pe_int pk_nil)) (pg_tupK K 2 rfl (pgs_cons (gset 5 nd) (pgs_cons (gset 8 nd) pgs_nil)))
        (pss_one (ps_if (pt_not (pt_val (pv 8)))
        (pss_cons (ps_expr (pe_bmK K PySem.F.plainAttrs_list PySem.F.slot_list_append PySem.F.type_list_append mt_append (pv 6) (pa_cons (pe_tup (pa_cons (pv 7) (pa_cons (pv 5) pa_nil))) pa_nil)))
      (pss_one (sset 7 nd (pe_op op_add (pv 5) pe_int))))
        pss_nil)))
      (pss_one (ps_ret (pv 6)))))))), ?_⟩
  fail "ww"
  refine new_ fun l0 H1 n0 s1 h0 => ?_
  fail "ww"
  refine n_rep h0 (by omega) (by show 1 * n ≤ _; omega) (new_ fun l H2 nl s2 hl => ?_)
  rw [flg_nil] at hl
  have nl0 : H l = none := by fail "kpz"
  fail "ww"
  refine forA (walk_list (xs := ts.map V.ref)) (fun i σ' H' => ∃ (y3 y4 y5 y6 y7 y8 : Option V), σ' = [some (.int (n : Int)), some (.ref b), some (.ref l), y3, y4, y5, y6, y7, y8] ∧ Same H H' ∧ H' l = some (.lst ((flg n (cs.take i)).map V.bl)))
    ⟨none, none, none, none, none, none, rfl, by fail "kp", hl⟩ (fun i σ' H' _ p => ?_) (fun i σ' H' hi p => ?_) (fun σ' H' p => ?_)
  · obtain ⟨_, _, _, _, _, _, _, s, _⟩ := p; fail "kp"
  · obtain ⟨y3, y4, y5, y6, y7, y8, rfl, s, hL⟩ := p
    have hi' : i < cs.length := by rw [← hC.len]; simpa using hi
    obtain ⟨t0, et, ht⟩ := hC.idx hi'
    have e1 : (ts.map V.ref)[i] = .ref t0 := by
      have : (ts.map V.ref)[i]? = some (.ref t0) := by rw [List.getElem?_map, et]; rfl
      rw [List.getElem?_eq_getElem hi] at this
      exact Option.some.inj this
    rw [e1]
    have hc := hF cs[i] (List.getElem_mem hi')
    rw [take_one hi']
    generalize cs[i] = c at hc ht ⊢
    generalize cs.take i = ds at hL ⊢
    fail "ww"
    refine ⟨⟨by omega, by omega, by omega, by omega⟩, ?_⟩
    rw [← flgU_0 n ds c] at hL
    refine forF walk_range (fun j σ' H' => ∃ (y5 y6 y7 y8 : Option V) (_u : Unit), σ' = [some (.int (n : Int)), some (.ref b), some (.ref l), some (.int (c.1 : Nat)), some (.int (c.2 : Nat)), y5, y6, y7, y8] ∧ Same H H' ∧ H' l = some (.lst (flgU n ds c j)))
      ⟨y5, y6, y7, y8, (), rfl, s, hL⟩ (fun _ _ _ _ _ => trivial) (fun j σ' H' hj p => ?_) (fun σ' H' p => ?_)
    · obtain ⟨y5, y6, y7, y8, _, rfl, s, hL⟩ := p
      fail "ww"
      refine r_setL hL (n := c.1 + j - 1) (ix_of (by omega) (by rw [flgU_len]; omega)) ?_
      rw [flgU_set n ds c j hc.1]
      exact ⟨_, _, _, _, (), rfl, same_old s nl0, upd_same⟩
    · obtain ⟨y5, y6, y7, y8, _, rfl, s, hL⟩ := p
      rw [show ((c.2 : Int) - (c.1 : Int)).toNat = c.2 - c.1 by omega, flgU_end n ds c hc.2.1] at hL
      exact ⟨_, _, _, _, _, _, rfl, s, hL⟩
  · obtain ⟨y3, y4, y5, y6, y7, y8, rfl, s, hL⟩ := p
    rw [List.take_of_length_le (by rw [List.length_map, hC.len]; exact Nat.le_refl _)] at hL
    clear s1 s2 h0 n0 hl
    fail "ww"
    refine new_ fun p H3 np s3 hp => ?_
    fail "ww"
    have np0 : H p = none := by fail "kpz"
    refine ⟨l, (flg n cs).map V.bl, 1, rfl, rfl, by fail "kp", by decide, by decide, ?_⟩
    have hL3 : H3 l = some (.lst ((flg n cs).map V.bl)) := by fail "kp"
    have hlp : l ≠ p := ne_of_none hL np
    have s03 : Same H H3 := by fail "kp"
    clear s s3 hL
    refine forP (walk_enumS (xs := (flg n cs).map V.bl)) (fun i σ' H' => ∃ (y3 y4 y5 y8 : Option V) (us : List Addr), σ' = [some (.int (n : Int)), some (.ref b), some (.ref l), y3, y4, y5, some (.ref p), some (.int ((blkU cs i).2 : Nat)), y8] ∧ Sx p H3 H' ∧ Same H H' ∧ H' p = some (.lst (us.map V.ref)) ∧ Cm H' us (blkU cs i).1 ∧ us.length ≤ i)
      ⟨y3, y4, y5, y8, [], rfl, Sx.refl, s03, hp, Cm.nil, Nat.le_refl _⟩ (fun i σ' H' _ p' => ?_) (fun i σ' H' T x y hi p' e1 e2 nT => ?_) (fun σ' H' p' => ?_)
    · obtain ⟨_, _, _, _, _, _, s, _⟩ := p'
      exact sq (s _ _ hlp hL3)
    · obtain ⟨y3, y4, y5, y8, us, rfl, sx, s, hP, hU, hul⟩ := p'
      have hi' : i < (flg n cs).length := by simpa using hi
      have hin : i < n := by rw [flg_len] at hi'; exact hi'
      cases e1
      rw [List.getElem?_map, List.getElem?_eq_getElem hi', flg_at] at e2
      cases e2
      have hblk : blkU cs (i + 1) = if lnk cs (i + 1) then blkU cs i else ((blkU cs i).1 ++ [((blkU cs i).2, i + 1)], i + 2) := rfl
      fail "ww"
      by_cases hl : lnk cs (i + 1) = true
      · rw [hl]
        fail "ww"
        rw [if_pos hl] at hblk
        rw [hblk]
        exact ⟨_, _, _, _, us, rfl, sx.same (same_new nT), by fail "kp", by fail "kp", by fail "kp", by omega⟩
      · rw [Bool.not_eq_true] at hl
        rw [hl]
        rw [if_neg (by rw [hl]; simp)] at hblk
        rw [hblk]
        fail "ww"
        refine new_ fun t H4 nt s4 ht => ?_
        have hP4 : H4 p = some (.lst (us.map V.ref)) := by fail "kp"
        fail "ww"
        refine r_append hP4 (by rw [List.length_map]; exact size_lt (by omega)) ?_
        fail "ww"
        have ht' : H4 t = some (.tup [.int (((blkU cs i).2 : Nat)), .int (((i + 1 : Nat)) : Int)]) := by
          rw [ht, show (1 : Int) + (i : Int) = ((i + 1 : Nat) : Int) by omega]
        rw [show (1 : Int) + (i : Int) + 1 = ((i + 2 : Nat) : Int) by omega]
        refine ⟨_, _, _, _, us ++ [t], rfl, Sx.trans ((sx.same (same_new nT)).same s4) Sx.put, same_old (by fail "kp") np0, by rw [upd_same, List.map_append]; rfl, ?_, by rw [List.length_append]; show _ + 1 ≤ _; omega⟩
        · exact (Cm.snoc (c := ((blkU cs i).2, i + 1)) (by fail "kp") ht').put hP4
    · obtain ⟨y3, y4, y5, y8, us, rfl, sx, s, hP, hU, hul⟩ := p'
      rw [List.length_map, flg_len] at hU
      fail "ww"
      exact q _ p us s np0 hP hU
def sp_law_pool (K : PySem.W.Frag) : Sp := fun vs H Q _ => ∃ (a : Addr) (ns : List Int) (k : Nat), vs = [.ref a, .int k] ∧ SqL K H a (ns.map V.int) ∧ k ≤ 10 ∧ ∀ H' r, Same H H' → H r = none → Pol H' r 0 → Q (.ref r) H'
theorem ok_law_pool (T : Txt K mg) : FnG P w K mg base CX0 1 T.law_pool_a T.law_pool_d ["script", "at"] (sp_law_pool K) := by
  refine okG T.law_pool_F sc_law_pool (fun vs H Q E h => ?_) (fun cdv A ou t H vs Q E hG hr h => ?_)
  · obtain ⟨_, _, _, rfl, _⟩ := h; rfl
  have nd := sc_law_pool.nd
  obtain ⟨a, ns, k, rfl, hS, hk, q⟩ := h
  refine ⟨_, (pss_cons (sset 2 nd pe_int)
      (C8.pss_cut (ps_if (pt_cmpR op_lt (pv 1) (pe_callB (lenK K) (by rfl) T.m_len PySem.boot_len (pa_cons (pv 0) pa_nil)) (nomark _))
        (pss_one (sset 2 nd (pe_ix (ix_listK K) (pv 0) (pv 1) (fun _ _ => rfl))))
        pss_nil)
      (pss_one (ps_ret (pe_lst (pa_cons (pe_callB (call_max2 rfl) (by rfl) T.m_max (by decide +kernel) (pa_cons pe_int (pa_cons (pe_op op_sub (pe_callB call_abs (by rfl) T.m_abs (by decide +kernel) (pa_cons (pv 2) pa_nil)) (pe_op op_powW pe_int pe_int)) pa_nil))) (pa_cons (pe_op op_add (pe_op op_mod (pv 2) pe_int) (pe_op op_mulW pe_int (pe_op op_add (pv 1) pe_int))) (pa_cons pe_int pa_nil)))))))), ?_⟩
  fail "ww"
  refine r_cut (fun σ' H' => ∃ (c : Int) (_u : Unit), σ' = [some (.ref a), some (.int (k : Int)), some (.int c)] ∧ H' = H) ?_ (fun σ' H' p => ?_)
  · fail "ww"
    rw [List.length_map]
    refine r_dec (fun h => ?_) (fun h => ?_)
    · fail "ww"
      refine r_ixL hS (at_map (ns := ns) (j := k) rfl (by omega)) ?_
      fail "ww"
      exact ⟨_, (), rfl, rfl⟩
    · fail "ww"
      exact ⟨_, (), rfl, rfl⟩
  · obtain ⟨c, _, rfl, rfl⟩ := p
    fail "ww"
    refine r_I (wide_mul (a := 32) (b := 4) (by decide) (by omega) (by decide) (by decide) (by decide)) ?_
    fail "ww"
    refine new_ fun r H1 nr s1 hr => ?_
    refine q _ r s1 nr ⟨_, _, _, hr, by omega, by omega, by omega, by omega, by omega⟩
def sp_law_draw (K : PySem.W.Frag) : Sp := fun vs H Q _ => ∃ (r : Addr) (lim : Int) (m : Nat), vs = [.ref r, .int lim] ∧ Pol H r m ∧ m < 2 ^ 60 ∧ 0 < lim ∧ lim < 2 ^ 200 ∧
  ∀ H' d, 0 ≤ d → d < lim → Sx r H H' → Pol H' r (m + 1) → Q (.int d) H'
theorem ok_law_draw (T : Txt K mg) : FnG P w K mg base CX0 1 T.law_draw_a T.law_draw_d ["pool", "many"] (sp_law_draw K) := by
  refine okG T.law_draw_F sc_law_draw (fun vs H Q E h => ?_) (fun cdv A ou t H vs Q E hG hr h => ?_)
  · obtain ⟨_, _, _, rfl, _⟩ := h; rfl
  have nd := sc_law_draw.nd
  obtain ⟨r, lim, m, rfl, ⟨a, b, c, hR, ha, hb, hb2, hc, hcm⟩, hm, hl, hl2, q⟩ := h
  refine ⟨_, (pss_cons (ps_if (pt_cmpR op_gt (pe_ix (ix_listK K) (pv 0) pe_int (fun _ _ => rfl)) pe_int (nomark _))
        (pss_cons (sset 2 nd (pe_op op_mod (pe_ix (ix_listK K) (pv 0) pe_int (fun _ _ => rfl)) (pv 1)))
      (pss_cons (ps_asg (pe_op op_fdivW (pe_ix (ix_listK K) (pv 0) pe_int (fun _ _ => rfl)) (pv 1)) (pg_sub (pv 0) pe_int set_list))
      (pss_one (ps_ret (pv 2)))))
        pss_nil)
      (pss_cons (ps_asg (pe_op op_add (pe_ix (ix_listK K) (pv 0) pe_int (fun _ _ => rfl)) pe_int) (pg_sub (pv 0) pe_int set_list))
      (pss_cons (sset 3 nd (pe_op op_mod (pe_op op_powW (pe_op op_add (pe_ix (ix_listK K) (pv 0) pe_int (fun _ _ => rfl)) (pe_op op_mulW pe_int (pe_ix (ix_listK K) (pv 0) pe_int (fun _ _ => rfl)))) pe_int) pe_int))
      (pss_cons (sset 3 nd (pe_op op_mod (pe_op op_powW (pe_op op_add (pv 3) (pe_op op_mulW pe_int (pe_ix (ix_listK K) (pv 0) pe_int (fun _ _ => rfl)))) pe_int) pe_int))
      (pss_one (ps_ret (pe_op op_mod (pe_op op_fdivW (pv 3) pe_int) (pv 1)))))))), ?_⟩
  fail "g"
  refine r_dec (fun h1 => ?_) (fun h1 => ?_)
  · fail "g"
    refine r_I (wide_div hl (b := 201) (by omega) (by decide) (by decide)) ?_
    fail "g"
    exact q _ _ (Int.emod_nonneg _ (by omega)) (Int.emod_lt_of_pos _ hl) Sx.put ⟨_, _, _, upd_same, Int.ediv_nonneg ha (by omega), hb, hb2, hc, by omega⟩
  · fail "g"
    refine r_I (wide_mul (a := 30) (b := 61) (by omega) (by omega) (by decide) (by decide) (by decide)) ?_
    fail "g"
    refine r_I (powW (n := 100) (by omega) (by decide) (by decide) (by decide)) ?_
    fail "g"
    have hx := Int.emod_lt_of_pos ((b + 15499751 * (c + 1)) ^ Int.toNat 3) (show (0 : Int) < 162259276829213363391578010288127 by decide)
    have hx0 := Int.emod_nonneg ((b + 15499751 * (c + 1)) ^ Int.toNat 3) (show (162259276829213363391578010288127 : Int) ≠ 0 by decide)
    generalize (b + 15499751 * (c + 1)) ^ Int.toNat 3 % 162259276829213363391578010288127 = x at hx hx0 ⊢
    refine r_I (wide_mul (a := 30) (b := 61) (by omega) (by omega) (by decide) (by decide) (by decide)) ?_
    fail "g"
    refine r_I (pow5 (n := 120) (by omega) (by decide) (by decide) (by decide)) ?_
    fail "g"
    refine r_I ⟨by decide, by decide +kernel⟩ ?_
    fail "g"
    exact q _ _ (Int.emod_nonneg _ (by omega)) (Int.emod_lt_of_pos _ hl) Sx.put ⟨_, _, _, upd_same, ha, hb, hb2, by omega, by omega⟩
def sp_law_blocks (K : PySem.W.Frag) : Sp := fun vs H Q _ => ∃ (n : Nat) (b : Addr) (ts : List Addr) (cs : List Cmd), vs = [.int n, .ref b] ∧ 1 ≤ n ∧ n ≤ 1000 ∧ SqL K H b (ts.map V.ref) ∧ Cm H ts cs ∧ Fits n cs ∧ cs.length ≤ 10000 ∧
  ∀ (H' : Hp) (p : Addr) (us : List Addr), Same H H' → H p = none → H' p = some (.lst (us.map V.ref)) → Cm H' us (blkM n cs) → Q (.ref p) H'
theorem ok_law_blocks (T : Txt K mg) : FnG P w K mg base CX0 1 T.law_blocks_a T.law_blocks_d ["wide", "steps_here"] (sp_law_blocks K) := by
  refine okG T.law_blocks_F sc_law_blocks (fun vs H Q E h => ?_) (fun cdv A ou t H vs Q E hG hr h => ?_)
  · obtain ⟨_, _, _, _, rfl, _⟩ := h; rfl
  have nd := sc_law_blocks.nd
  obtain ⟨n, b, ts, cs, rfl, hn1, hn, hB, hC, hF, hl, q⟩ := h
  refine ⟨_, (pss_cons (sset 2 nd (pe_lst (pa_cons (pe_lst (pa_cons pe_int (pa_cons pe_int pa_nil))) pa_nil)))
      (pss_cons (ps_for PassesOwn.never rfl (pi_range2 (by rfl) T.m_range (pa_cons pe_int (pa_cons (pe_op op_add (pv 0) pe_int) pa_nil))) (gset 3 nd)
        (pss_one (ps_if (pt_cmpR (neDK K hr.units) (pe_lc (own := [("begin", 4), ("end", 5)]) (hc := rfl) (hN := nd) (hi := (pi_listK K (pv 1))) (ok := blkOk_by (by rfl)) (hg := fun _ _ _ _ _ => (pg_tupK K 2 rfl (pgs_cons (gset 4 nd) (pgs_cons (gset 5 nd) pgs_nil)))) (ht := (fun _ _ _ _ _ => pts_one (pt_chain op_lt op_le (pv 4) (pv 3) (pv 5)))) (he := fun _ _ _ _ _ => pe_int)) (pe_lst pa_nil) (nomark _))
        (pss_one (ps_asg (pe_lst (pa_cons (pe_ix (ix_listK K) (pe_ix (ix_listK K) (pv 2) (pe_un un_neg pe_int) (fun _ _ => rfl)) pe_int (fun _ _ => rfl)) (pa_cons (pv 3) pa_nil))) (pg_sub (pv 2) (pe_un un_neg pe_int) set_list)))
        (pss_one (ps_expr (pe_bmK K PySem.F.plainAttrs_list PySem.F.slot_list_append PySem.F.type_list_append mt_append (pv 2) (pa_cons (pe_lst (pa_cons (pv 3) (pa_cons (pv 3) pa_nil))) pa_nil)))))))
      (pss_one (ps_ret (pe_lc (own := [("begin", 4), ("end", 5)]) (hc := rfl) (hN := nd) (hi := (pi_listK K (pv 2))) (ok := blkOk_by (by rfl)) (hg := fun _ _ _ _ _ => (pg_unlK K 2 rfl (pgs_cons (gset 4 nd) (pgs_cons (gset 5 nd) pgs_nil)))) (ht := (fun _ _ _ _ _ => pts_nil)) (he := fun _ _ _ _ _ => (pe_tup (pa_cons (pv 4) (pa_cons (pv 5) pa_nil))))))))), ?_⟩
  obtain ⟨n, rfl⟩ : ∃ m, n = m + 1 := ⟨n - 1, by omega⟩
  fail "ww"
  refine new_ fun t1 H1 n1 s1 h1 => ?_
  fail "ww"
  refine new_ fun l H2 n2 s2 h2 => ?_
  fail "ww"
  have nl : H l = none := by fail "kpz"
  have ht12 : H2 t1 = some (.lst [.int 1, .int 1]) := by fail "kp"
  refine ⟨⟨by omega, by omega, by omega, by omega⟩, ?_⟩
  refine forF walk_range (fun i σ' H' => ∃ (y3 y4 y5 : Option V) (as : List Addr) (t : Addr), σ' = [some (.int (((n + 1 : Nat)) : Int)), some (.ref b), some (.ref l), y3, y4, y5] ∧ Same H H' ∧ H' l = some (.lst ((as ++ [t]).map V.ref)) ∧ Rws H' (as ++ [t]) (rowsC (blkP cs i)) ∧ (∀ u ∈ as ++ [t], u ≠ l))
    ⟨none, none, none, [], t1, rfl, by fail "kp", h2, Rws.one (l := [1, 1]) ht12, fun u hu => by rw [List.mem_singleton.mp hu]; exact ne_of_none h1 n2⟩ (fun _ _ _ _ _ => trivial) (fun i σ' H' hi p => ?_) (fun σ' H' p => ?_)
  · clear ht12 h2 n2 h1 n1 s1 s2
    obtain ⟨y3, y4, y5, as, t, rfl, s, hL, hR, hul⟩ := p
    fail "ww"
    intro D nD
    refine lc_it (walk_list (xs := ts.map V.ref)) (fun j Hj => Same H' Hj ∧ Hj D = some (.lst (((hitU cs (i + 1) j).map fun _ => (1 : Int)).map V.int))) ⟨same_new nD, upd_same⟩ (fun j Hj _ p => ?_) (fun j x Hj Hj' hj p y => ?_) (fun H3 p => ?_)
    · obtain ⟨s, _⟩ := p; fail "kp"
    · obtain ⟨rfl, ey⟩ := y
      obtain ⟨sj, hDj⟩ := p
      have hj' : j < cs.length := by rw [← hC.len]; simpa using hj
      obtain ⟨t0, et, ht⟩ := hC.idx hj'
      rw [List.getElem?_map, et] at ey
      cases ey
      have hh := hit_succ (p := i + 1) hj'
      have hhl := hit_len cs (i + 1) j
      generalize cs[j] = c at ht hh
      fail "ww"
      refine ⟨rfl, ?_⟩
      fail "ww"
      refine r_dec (fun g1 => ?_) (fun g1 => ?_)
      · fail "ww"
        by_cases g2 : (2 : Int) + (i : Int) ≤ (c.2 : Int)
        · rw [decide_eq_true g2]
          fail "ww"
          rw [if_pos (by rw [decide_eq_true (by omega : c.1 ≤ i + 1), decide_eq_true (by omega : i + 1 < c.2)]; rfl)] at hh
          refine ⟨_, hDj, by rw [List.length_map, List.length_map]; exact size_lt (by omega), same_old sj nD, ?_⟩
          rw [hh, upd_same]; simp
        · rw [decide_eq_false g2]
          fail "ww"
          rw [if_neg (by rw [decide_eq_false (by omega : ¬ i + 1 < c.2)]; simp), List.append_nil] at hh
          rw [hh]
          exact ⟨sj, hDj⟩
      · fail "ww"
        rw [if_neg (by rw [decide_eq_false (by omega : ¬ c.1 ≤ i + 1)]; simp), List.append_nil] at hh
        rw [hh]
        exact ⟨sj, hDj⟩
    · obtain ⟨s3, hD⟩ := p
      rw [List.length_map, hC.len] at hD
      have nD0 : H D = none := s.free nD
      fail "ww"
      refine new_ fun e4 H4 n4 s4 h4 => ?_
      refine r_neL (ns := (hitU cs (i + 1) cs.length).map fun _ => (1 : Int)) (ms := []) (by fail "kp") (sq h4) ?_
      have hL4 : H4 l = some (.lst ((as ++ [t]).map V.ref)) := by fail "kp"
      have hR4 : Rws H4 (as ++ [t]) (rowsC (blkP cs i)) := by fail "kp"
      have s04 : Same H H4 := by fail "kp"
      have ha4 : as.length = (blkU cs i).1.length := by
        have := hR.len
        unfold rowsC blkP at this
        rw [List.length_append, List.length_map, List.length_append] at this
        simpa using this
      have hpl := blkP_len cs i
      clear s3 s4 s hL hR hD h4 nD n4
      fail "ww"
      by_cases hk : lnk cs (i + 1) = true
      · refine r_itN (fun z => (hit_nil cs (i + 1)).mp (List.map_eq_nil_iff.mp z) hk) ?_
        have ht4 : H4 t = some (.lst ([((blkU cs i).2 : Int), ((i + 1 : Nat) : Int)].map V.int)) := hR4.row (i := as.length) (by simp) (by unfold rowsC blkP; rw [List.map_append, List.getElem?_append_right (by rw [List.length_map, ha4]; exact Nat.le_refl _), List.length_map, ha4, Nat.sub_self]; rfl)
        fail "ww"
        refine r_ixL (sq hL4) last_at ?_
        fail "ww"
        refine r_ixL (sq ht4) rfl ?_
        fail "ww"
        refine new_ fun u H5 nu s5 hu => ?_
        have hL5 : H5 l = some (.lst ((as ++ [t]).map V.ref)) := by fail "kp"
        fail "ww"
        refine r_setL hL5 last_ix ?_
        rw [last_set]
        refine ⟨_, _, _, as, u, rfl, same_old (by fail "kp") nl, upd_same, ?_, fun v hv => ?_⟩
        · rw [blkP_yes hk, rowsC_app]
          have hR5 : Rws H5 (as ++ [t]) (rowsC (blkP cs i)) := by fail "kp"
          have hR6 : Rws H5 as (rowsC (blkU cs i).1) := by
            refine ⟨by unfold rowsC; rw [List.length_map, ha4], fun k v e => ?_⟩
            have hk' : k < as.length := (List.getElem?_eq_some_iff.mp e).1
            obtain ⟨x, e1, e2⟩ := hR5.at_ k v (by rw [List.getElem?_append_left hk']; exact e)
            unfold rowsC blkP at e1
            rw [List.map_append, List.getElem?_append_left (by rw [List.length_map, ← ha4]; exact hk')] at e1
            exact ⟨x, e1, e2⟩
          refine (Rws.app hR6 (Rws.one (l := [((blkU cs i).2 : Int), ((i + 2 : Nat) : Int)]) (by rw [hu, show (2 : Int) + (i : Int) = ((i + 2 : Nat) : Int) by omega]; rfl))).upd_ fun hm => ?_
          rcases List.mem_append.mp hm with z | z
          · exact hul _ (List.mem_append_left _ z) rfl
          · exact (ne_of_none hL4 nu) (List.mem_singleton.mp z)
        · rcases List.mem_append.mp hv with z | z
          · exact hul v (List.mem_append_left _ z)
          · rw [List.mem_singleton.mp z]; exact (ne_of_none hL4 nu).symm
      · refine r_itNF (by rw [(hit_nil cs (i + 1)).mpr hk]; rfl) ?_
        fail "ww"
        refine new_ fun u H5 nu s5 hu => ?_
        have hL5 : H5 l = some (.lst ((as ++ [t]).map V.ref)) := by fail "kp"
        fail "ww"
        refine r_append hL5 (by rw [List.length_map, List.length_append]; exact size_lt (by show _ + 1 < _; unfold blkP at hpl; rw [List.length_append] at hpl; simp only [List.length_singleton] at hpl; omega)) ?_
        fail "ww"
        refine ⟨_, _, _, as ++ [t], u, rfl, same_old (by fail "kp") nl, by rw [upd_same]; simp, ?_, fun v hv => ?_⟩
        · rw [blkP_no hk, rowsC_app]
          have hR5 : Rws H5 (as ++ [t]) (rowsC (blkP cs i)) := by fail "kp"
          refine (Rws.app hR5 (Rws.one (l := [((i + 2 : Nat) : Int), ((i + 2 : Nat) : Int)]) (by rw [hu, show (2 : Int) + (i : Int) = ((i + 2 : Nat) : Int) by omega]; rfl))).upd_ fun hm => ?_
          rcases List.mem_append.mp hm with z | z
          · exact hul _ z rfl
          · exact (ne_of_none hL4 nu) (List.mem_singleton.mp z)
        · rcases List.mem_append.mp hv with z | z
          · exact hul v z
          · rw [List.mem_singleton.mp z]; exact (ne_of_none hL4 nu).symm
  · obtain ⟨y3, y4, y5, as, t, rfl, s, hL, hR, hul⟩ := p
    rw [show ((((n + 1 : Nat) : Int)) + 1 - 2).toNat = n by omega, blkP_end hF] at hR
    clear ht12 h2 n2 h1 n1 s1 s2
    fail "ww"
    intro D nD
    generalize as ++ [t] = bs at hL hR hul
    refine lc_it (walk_list (xs := bs.map V.ref)) (CmI H' D (blkM (n + 1) cs)) (cmi_nil nD) (fun j Hj _ p => ?_) (fun j x Hj Hj' hj p y => ?_) (fun H3 p => ?_)
    · obtain ⟨_, _, _, sj, _⟩ := p; fail "kp"
    · obtain ⟨rfl, ey⟩ := y
      have p0 := p
      obtain ⟨_, _, _, sj, _⟩ := p
      have hlen := hR.len
      unfold rowsC at hlen
      rw [List.length_map] at hlen
      have hj' : j < (blkM (n + 1) cs).length := by rw [← hlen]; simpa using hj
      obtain ⟨t0, et, ht⟩ := hR.idx (i := j) (by unfold rowsC; rw [List.length_map]; exact hj')
      rw [List.getElem?_map, et] at ey
      cases ey
      unfold rowsC at ht
      rw [List.getElem_map] at ht
      have hg : (blkM (n + 1) cs)[j]? = some (blkM (n + 1) cs)[j] := List.getElem?_eq_getElem hj'
      generalize (blkM (n + 1) cs)[j] = c at ht hg
      have hbl : (blkM (n + 1) cs).length ≤ n + 1 := by rw [← blkP_end hF]; exact blkP_len cs n
      fail "ww"
      refine r_gunl (xs := [.int c.1, .int c.2]) (sq (sj _ _ ht)) rfl ?_
      fail "ww"
      refine ⟨rfl, ?_⟩
      fail "ww"
      refine new_ fun u H5 nu s5 hu => ?_
      exact cmi_put p0 nD hg (by omega) s5 nu hu
    · have hlen := hR.len
      unfold rowsC at hlen
      rw [List.length_map] at hlen
      obtain ⟨es, hD, s3, _, hE⟩ := cmi_end p (by rw [List.length_map, hlen])
      exact q _ D es (s.trans s3) (s.free nD) hD hE
def sp_check_sized_script (K : PySem.W.Frag) : Sp := fun vs H Q _ => ∃ (n : Nat) (b : Addr) (ts : List Addr) (cs : List Cmd), vs = [.int n, .ref b] ∧ 1 ≤ n ∧ SqL K H b (ts.map V.ref) ∧ Cm H ts cs ∧ Fits n cs ∧ ∀ H', Same H H' → Q .non H'
theorem ok_check_sized_script (T : Txt K mg) : FnG P w K mg base CX0 2 T.check_sized_script_a T.check_sized_script_d ["size", "commands"] (sp_check_sized_script K) := by
  refine okG T.check_sized_script_F sc_check_sized_script (fun vs H Q E h => ?_) (fun cdv A ou t H vs Q E hG hr h => ?_)
  · obtain ⟨_, _, _, _, rfl, _⟩ := h; rfl
  have nd := sc_check_sized_script.nd
  obtain ⟨n, b, ts, cs, rfl, hn, hS, hC, hF, q⟩ := h
  refine ⟨_, (pss_cons (ps_expr (pe_callG (ok_check_size T) hG (hr.mono (by decide)) (by rfl) T.check_size_g T.check_size_F.kp T.check_size_b .nil pass0 (pa_cons (pv 0) pa_nil)))
      (pss_one (ps_expr (pe_callG (ok_check_script T) hG (hr.mono (by decide)) (by rfl) T.check_script_g T.check_script_F.kp T.check_script_b .nil pass0 (pa_cons (pv 0) (pa_cons (pv 1) pa_nil)))))), ?_⟩
  fail "g"
  refine ⟨n, rfl, hn, ?_⟩
  fail "g"
  refine ⟨n, b, ts, cs, rfl, hS, hC, hF, fun H' s => ?_⟩
  fail "g"
  exact q _ s
def sp_law_steps (K : PySem.W.Frag) : Sp := fun vs H Q _ => ∃ (r : Addr) (wide most m : Nat), vs = [.ref r, .int wide, .int most] ∧ Pol H r m ∧ 1 ≤ wide ∧ wide ≤ 1000 ∧ most ≤ 10000 ∧ m < 2 ^ 50 ∧
  ∀ (H' : Hp) (p : Addr) (ts : List Addr) (cs : List Cmd), Sx r H H' → H p = none → Pol H' r (m + 3 + 4 * most) → H' p = some (.lst (ts.map V.ref)) → Cm H' ts cs → Fits wide cs → cs.length ≤ most → Q (.ref p) H'
theorem ok_law_steps (T : Txt K mg) : FnG P w K mg base CX0 2 T.law_steps_a T.law_steps_d ["pool", "wide", "most"] (sp_law_steps K) := by
  refine okG T.law_steps_F sc_law_steps (fun vs H Q E h => ?_) (fun cdv A ou t H vs Q E hG hr h => ?_)
  · obtain ⟨_, _, _, _, rfl, _⟩ := h; rfl
  have nd := sc_law_steps.nd
  obtain ⟨r, wide, most, m, rfl, hR, hw1, hw, hmost, hm, q⟩ := h
  refine ⟨_, (pss_cons (ps_par (i := 3) (j := 4) (by rfl) nd rfl rfl (by decide) rfl rfl (pa_cons (pe_callG (ok_law_draw T) hG (hr.mono (by decide)) (by rfl) T.law_draw_g T.law_draw_F.kp T.law_draw_b .nil pass0 (pa_cons (pv 0) (pa_cons pe_int pa_nil))) (pa_cons (pe_lst pa_nil) pa_nil)) (by rfl))
      (pss_cons (sset 5 nd (pe_op op_add pe_int (pe_callG (ok_law_draw T) hG (hr.mono (by decide)) (by rfl) T.law_draw_g T.law_draw_F.kp T.law_draw_b .nil pass0 (pa_cons (pv 0) (pa_cons (pv 1) pa_nil)))))
      (pss_cons (ps_for PassesOwn.never rfl (pi_range1 (by rfl) T.m_range (pa_cons (pe_callG (ok_law_draw T) hG (hr.mono (by decide)) (by rfl) T.law_draw_g T.law_draw_F.kp T.law_draw_b .nil pass0 (pa_cons (pv 0) (pa_cons (pe_op op_add (pv 2) pe_int) pa_nil))) pa_nil)) (gset 6 nd)
        (pss_cons (sset 7 nd (pe_op op_add pe_int (pe_callG (ok_law_draw T) hG (hr.mono (by decide)) (by rfl) T.law_draw_g T.law_draw_F.kp T.law_draw_b .nil pass0 (pa_cons (pv 0) (pa_cons (pv 1) pa_nil)))))
      (pss_cons (sset 8 nd (pe_callB (call_min2 rfl) (by rfl) T.m_min (by decide +kernel) (pa_cons (pv 1) (pa_cons (pe_op op_add (pv 7) (pe_ix (ix_listK K) (pe_lst (pa_cons (pe_callG (ok_law_draw T) hG (hr.mono (by decide)) (by rfl) T.law_draw_g T.law_draw_F.kp T.law_draw_b .nil pass0 (pa_cons (pv 0) (pa_cons (pv 1) pa_nil))) (pa_cons (pe_callG (ok_law_draw T) hG (hr.mono (by decide)) (by rfl) T.law_draw_g T.law_draw_F.kp T.law_draw_b .nil pass0 (pa_cons (pv 0) (pa_cons pe_int pa_nil))) (pa_cons pe_int (pa_cons (pv 1) (pa_cons (pe_callG (ok_law_draw T) hG (hr.mono (by decide)) (by rfl) T.law_draw_g T.law_draw_F.kp T.law_draw_b .nil pass0 (pa_cons (pv 0) (pa_cons pe_int pa_nil))) pa_nil)))))) (pv 3) (fun _ _ => rfl))) pa_nil))))
      (C8.pss_cut (ps_if (pt_cmpR op_eq (pv 3) pe_int (nomark _))
        (pss_one (ps_asg (pe_ix (ix_listK K) (pe_lst (pa_cons (pe_tup (pa_cons pe_int (pa_cons (pe_callB (call_min2 rfl) (by rfl) T.m_min (by decide +kernel) (pa_cons (pv 1) (pa_cons (pe_op op_add (pv 5) pe_int) pa_nil))) pa_nil))) (pa_cons (pe_tup (pa_cons (pv 5) (pa_cons (pv 1) pa_nil))) pa_nil))) (pe_op op_mod (pv 6) pe_int) (fun _ _ => rfl)) (pg_tupK K 2 rfl (pgs_cons (gset 7 nd) (pgs_cons (gset 8 nd) pgs_nil)))))
        pss_nil)
      (C8.pss_cut (ps_if (PW.pt (pw_and (pt_cmpR op_eq (pv 3) pe_int (nomark _)) (pw_and1 (pt_chain op_le op_lt (pv 7) (pv 5) (pv 8)))))
        (pss_one (sset 7 nd (pv 8)))
        pss_nil)
      (pss_one (ps_expr (pe_bmK K PySem.F.plainAttrs_list PySem.F.slot_list_append PySem.F.type_list_append mt_append (pv 4) (pa_cons (pe_tup (pa_cons (pv 7) (pa_cons (pv 8) pa_nil))) pa_nil)))))))))
      (pss_one (ps_ret (pv 4)))))), ?_⟩
  fail "ww"
  refine ⟨r, 5, m, rfl, hR, by omega, by decide, by decide, fun H1 w0 hw00 hw01 s1 hR1 => ?_⟩
  fail "ww"
  refine new_ fun p H2 np s2 hp => ?_
  fail "ww"
  have hpr : p ≠ r := by fail "kpn"
  refine ⟨r, wide, m + 1, rfl, by fail "kp", by omega, by omega, by omega, fun H3 c0 hc0 hc1 s3 hR3 => ?_⟩
  obtain ⟨c, rfl⟩ := Int.eq_ofNat_of_zero_le hc0
  fail "ww"
  refine ⟨r, _, m + 2, rfl, hR3, by omega, by omega, by omega, fun H4 n0 hn0 hn1 s4 hR4 => ?_⟩
  obtain ⟨n, rfl⟩ := Int.eq_ofNat_of_zero_le hn0
  fail "ww"
  refine ⟨by omega, by omega, ?_⟩
  have hp0 : H p = none := by fail "kpz"
  refine forF walk_range (fun i σ' H' => ∃ (ts : List Addr) (cs : List Cmd) (y6 y7 y8 : Option V), σ' = [some (.ref r), some (.int wide), some (.int most), some (.int w0), some (.ref p), some (.int (1 + (c : Int))), y6, y7, y8] ∧ cs.length = i ∧ H' p = some (.lst (ts.map V.ref)) ∧ Cm H' ts cs ∧ Fits wide cs ∧ Sx r H H' ∧ Pol H' r (m + 3 + 4 * i))
   ⟨[], [], none, none, none, rfl, rfl, (by fail "kp" : H4 p = some (.lst [])), Cm.nil, (fun c hc => by cases hc), by fail "kp", hR4⟩ (fun _ _ _ _ _ => trivial) (fun i σ' H' hi p' => ?_) (fun σ' H' p' => ?_)
  · clear s1 s2 s3 s4 hR1 hR3 hR4 hp np
    obtain ⟨ts, cs, y6, y7, y8, rfl, hlen, hP, hC, hF, sH, hRi⟩ := p'
    have hin : i < n := by simpa using hi
    fail "ww"
    refine ⟨r, wide, _, rfl, hRi, by omega, by omega, by omega, fun H5 b0 hb0 hb1 s5 hR5 => ?_⟩
    obtain ⟨b, rfl⟩ := Int.eq_ofNat_of_zero_le hb0
    fail "ww"
    refine ⟨r, wide, _, rfl, hR5, by omega, by omega, by omega, fun H6 d1 hd10 hd11 s6 hR6 => ?_⟩
    fail "ww"
    refine ⟨r, 4, _, rfl, hR6, by omega, by decide, by decide, fun H7 d2 hd20 hd21 s7 hR7 => ?_⟩
    fail "ww"
    refine ⟨r, 3, _, rfl, hR7, by omega, by decide, by decide, fun H8 d3 hd30 hd31 s8 hR8 => ?_⟩
    fail "ww"
    refine new_ fun lx H9 nx s9 hx => ?_
    obtain ⟨L, hat, hL0⟩ : ∃ L : Int, atI [V.int d1, V.int d2, V.int 1, V.int (wide : Int), V.int d3] w0 = some (.int L) ∧ 0 ≤ L := by
      have : w0 = 0 ∨ w0 = 1 ∨ w0 = 2 ∨ w0 = 3 ∨ w0 = 4 := by omega
      rcases this with h | h | h | h | h <;> subst h
      · exact ⟨_, rfl, hd10⟩
      · exact ⟨_, rfl, hd20⟩
      · exact ⟨_, rfl, by omega⟩
      · exact ⟨_, rfl, by omega⟩
      · exact ⟨_, rfl, hd30⟩
    fail "ww"
    refine r_ixL (sq hx) hat ?_
    fail "ww"
    obtain ⟨E, hE, hE1, hE2⟩ : ∃ E : Nat, (if 1 + (b : Int) + L < (wide : Int) then 1 + (b : Int) + L else (wide : Int)) = (E : Int) ∧ 1 + b ≤ E ∧ E ≤ wide := by
      split
      · obtain ⟨l, rfl⟩ := Int.eq_ofNat_of_zero_le hL0
        exact ⟨1 + b + l, by omega, by omega, by omega⟩
      · exact ⟨wide, rfl, by omega, by omega⟩
    rw [hE]
    have hP9 : H9 p = some (.lst (ts.map V.ref)) := by fail "kp"
    have hC9 : Cm H9 ts cs := by fail "kp"
    have sH9 : Sx r H H9 := by fail "kp"
    have hR9 : Pol H9 r (m + 3 + 4 * (i + 1)) := (hR8.same s9).le (by omega)
    clear s5 s6 s7 s8 s9 hR5 hR6 hR7 hR8 hx nx hP hC sH hRi
    refine r_cut (fun σ' H' => ∃ (d : Cmd) (_u : Unit), σ' = [some (.ref r), some (.int wide), some (.int most), some (.int w0), some (.ref p), some (.int (1 + (c : Int))), some (.int (0 + (i : Int))), some (.int (d.1 : Nat)), some (.int (d.2 : Nat))] ∧ (1 ≤ d.1 ∧ d.1 ≤ d.2 ∧ d.2 ≤ wide) ∧ Same H9 H') ?_ (fun σ' H' p' => ?_)
    · fail "ww"
      refine r_dec (fun h3 => ?_) (fun h3 => ?_)
      · fail "ww"
        refine new_ fun t1 G1 m1 e1 g1 => ?_
        fail "ww"
        refine new_ fun t2 G2 m2 e2 g2 => ?_
        fail "ww"
        refine new_ fun l3 G3 m3 e3 g3 => ?_
        fail "ww"
        have hmod : (0 + (i : Int)) % 2 = 0 ∨ (0 + (i : Int)) % 2 = 1 := by omega
        rcases hmod with hh | hh <;> rw [hh]
        · refine r_ixL (sq g3) (v := .ref t1) rfl ?_
          obtain ⟨M, hM, hM1, hM2⟩ : ∃ M : Nat, (if 1 + (c : Int) + 1 < (wide : Int) then 1 + (c : Int) + 1 else (wide : Int)) = (M : Int) ∧ 1 ≤ M ∧ M ≤ wide := by
            split
            · exact ⟨1 + c + 1, by omega, by omega, by omega⟩
            · exact ⟨wide, rfl, by omega, by omega⟩
          rw [hM] at g1
          fail "ww"
          exact ⟨(1, M), (), rfl, ⟨Nat.le_refl _, hM1, hM2⟩, by fail "kp"⟩
        · refine r_ixL (sq g3) (v := .ref t2) rfl ?_
          fail "ww"
          exact ⟨(1 + c, wide), (), by simp, ⟨by show 1 ≤ 1 + c; omega, by show 1 + c ≤ wide; omega, Nat.le_refl _⟩, by fail "kp"⟩
      · fail "ww"
        exact ⟨(1 + b, E), (), by simp, ⟨by show 1 ≤ 1 + b; omega, hE1, hE2⟩, Same.refl _⟩
    · obtain ⟨d, _, rfl, hd, sd⟩ := p'
      refine r_cut (fun σ' H' => ∃ (d : Cmd) (_u : Unit), σ' = [some (.ref r), some (.int wide), some (.int most), some (.int w0), some (.ref p), some (.int (1 + (c : Int))), some (.int (0 + (i : Int))), some (.int (d.1 : Nat)), some (.int (d.2 : Nat))] ∧ (1 ≤ d.1 ∧ d.1 ≤ d.2 ∧ d.2 ≤ wide) ∧ Same H9 H') ?_ (fun σ' H' p' => ?_)
      · fail "ww"
        refine r_dec (fun h4 => ?_) (fun h4 => ?_)
        · fail "ww"
          refine r_dec (fun h5 => ?_) (fun h5 => ?_)
          · fail "ww"
            refine r_dec (fun h6 => ?_) (fun h6 => ?_)
            · fail "ww"
              exact ⟨(d.2, d.2), (), rfl, ⟨by show 1 ≤ d.2; omega, Nat.le_refl _, hd.2.2⟩, sd⟩
            · fail "ww"
              exact ⟨d, (), rfl, hd, sd⟩
          · fail "ww"
            exact ⟨d, (), rfl, hd, sd⟩
        · fail "ww"
          exact ⟨d, (), rfl, hd, sd⟩
      · obtain ⟨d, _, rfl, hd, sd⟩ := p'
        fail "ww"
        refine new_ fun t1 G1 m1 e1 g1 => ?_
        have hPG : G1 p = some (.lst (ts.map V.ref)) := by fail "kp"
        fail "ww"
        refine r_append hPG (by rw [List.length_map, hC9.len]; exact size_lt (by omega)) ?_
        fail "ww"
        refine ⟨ts ++ [t1], cs ++ [d], _, _, _, rfl, by rw [List.length_append, hlen]; rfl, by rw [upd_same, List.map_append]; rfl, ?_, ?_, Sx.old (by fail "kp") hp0, (Pol.other (by fail "kp") hpr)⟩
        · have : Cm G1 (ts ++ [t1]) (cs ++ [d]) := Cm.snoc (by fail "kp") g1
          exact this.put hPG
        · intro e he
          rcases List.mem_append.mp he with z | z
          · exact hF e z
          · rw [List.mem_singleton.mp z]; exact hd
  · obtain ⟨ts, cs, y6, y7, y8, rfl, hlen, hP, hC, hF, sH, hRi⟩ := p'
    rw [Int.toNat_natCast] at hlen hRi
    fail "ww"
    exact q _ _ ts cs sH hp0 (hRi.le (by omega)) hP hC hF (by omega)
def sp_blocks (K : PySem.W.Frag) : Sp := fun vs H Q _ => ∃ (n : Nat) (b : Addr) (ts : List Addr) (cs : List Cmd), vs = [.int n, .ref b] ∧ 1 ≤ n ∧ n ≤ 1000 ∧ SqL K H b (ts.map V.ref) ∧ Cm H ts cs ∧ Fits n cs ∧
  ∀ (H' : Hp) (p : Addr) (us : List Addr), Same H H' → H p = none → H' p = some (.lst (us.map V.ref)) → Cm H' us (blkM n cs) → Q (.ref p) H'
theorem ok_blocks (T : Txt K mg) : FnG P w K mg base CX0 3 T.blocks_a T.blocks_d ["size", "commands"] (sp_blocks K) := by
  refine okG T.blocks_F sc_blocks (fun vs H Q E h => ?_) (fun cdv A ou t H vs Q E hG hr h => ?_)
  · obtain ⟨_, _, _, _, rfl, _⟩ := h; rfl
  have nd := sc_blocks.nd
  obtain ⟨n, b, ts, cs, rfl, hn1, hn, hB, hC, hF, q⟩ := h
  refine ⟨_, (pss_cons (ps_expr (pe_callG (ok_check_sized_script T) hG (hr.mono (by decide)) (by rfl) T.check_sized_script_g T.check_sized_script_F.kp T.check_sized_script_b .nil pass0 (pa_cons (pv 0) (pa_cons (pv 1) pa_nil))))
      (pss_one (ps_ret (pe_callG (ok_linked_blocks T) hG (hr.mono (by decide)) (by rfl) T.linked_blocks_g T.linked_blocks_F.kp T.linked_blocks_b .nil pass0 (pa_cons (pv 0) (pa_cons (pv 1) pa_nil)))))), ?_⟩
  fail "ww"
  refine ⟨n, b, ts, cs, rfl, hn1, hB, hC, hF, fun H1 s1 => ?_⟩
  fail "ww"
  refine ⟨n, b, ts, cs, rfl, hn, by fail "kp", by fail "kp", hF, fun H2 p us s2 np hp hU => ?_⟩
  exact q _ p us (by fail "kp") (by fail "kpz") hp hU
def sp_law_right (K : PySem.W.Frag) : Sp := fun vs H Q _ => ∃ (r : Addr) (m : Nat), vs = [.ref r] ∧ Pol H r m ∧ m < 2 ^ 40 ∧ ∀ H', Sx r H H' → Pol H' r (m + 10000) → Q (.bl true) H'
theorem ok_law_right (T : Txt K mg) : FnG P w K mg base CX0 4 T.law_right_a T.law_right_d ["pool"] (sp_law_right K) := by
  refine okG T.law_right_F sc_law_right (fun vs H Q E h => ?_) (fun cdv A ou t H vs Q E hG hr h => ?_)
  · obtain ⟨_, _, rfl, _⟩ := h; rfl
  have nd := sc_law_right.nd
  obtain ⟨r, m, rfl, hR, hm, q⟩ := h
  refine ⟨_, (pss_cons (sset 1 nd (pe_op op_add pe_int (pe_callG (ok_law_draw T) hG (hr.mono (by decide)) (by rfl) T.law_draw_g T.law_draw_F.kp T.law_draw_b .nil pass0 (pa_cons (pv 0) (pa_cons (pe_ix (ix_listK K) (pe_lst (pa_cons pe_int (pa_cons pe_int pa_nil))) (pe_callG (ok_law_draw T) hG (hr.mono (by decide)) (by rfl) T.law_draw_g T.law_draw_F.kp T.law_draw_b .nil pass0 (pa_cons (pv 0) (pa_cons pe_int pa_nil))) (fun _ _ => rfl)) pa_nil)))))
      (pss_cons (sset 2 nd (pe_callG (ok_law_steps T) hG (hr.mono (by decide)) (by rfl) T.law_steps_g T.law_steps_F.kp T.law_steps_b .nil pass0 (pa_cons (pv 0) (pa_cons (pv 1) (pa_cons (pe_ix (ix_listK K) (pe_lst (pa_cons pe_int (pa_cons pe_int (pa_cons pe_int pa_nil)))) (pe_callG (ok_law_draw T) hG (hr.mono (by decide)) (by rfl) T.law_draw_g T.law_draw_F.kp T.law_draw_b .nil pass0 (pa_cons (pv 0) (pa_cons pe_int pa_nil))) (fun _ _ => rfl)) pa_nil)))))
      (pss_cons (sset 3 nd (pe_lc (own := [("turn", 7)]) (hc := rfl) (hN := nd) (hi := (pi_range1 (by rfl) T.m_range (pa_cons (pe_callG (ok_law_draw T) hG (hr.mono (by decide)) (by rfl) T.law_draw_g T.law_draw_F.kp T.law_draw_b .nil pass0 (pa_cons (pv 0) (pa_cons pe_int pa_nil))) pa_nil))) (ok := blkOk_by (by rfl)) (hg := fun _ _ _ _ _ => (gset 7 nd)) (ht := (fun _ _ _ _ _ => pts_nil)) (he := fun _ _ _ _ _ => (pe_callG (ok_law_draw T) hG (hr.mono (by decide)) (by rfl) T.law_draw_g T.law_draw_F.kp T.law_draw_b .nil pass0 (pa_cons (pv 0) (pa_cons (pe_op op_add (pv 1) pe_int) pa_nil))))))
      (pss_cons (ps_setLc (i := 2) (hy := rfl) (hyl := rfl) (hsw := sw_true rfl rfl rfl (by decide +kernel)) (own := [("pair", 8)]) (hc := rfl) (hN := nd) (hi := (pi_listK K (pv 2))) (ok := blkOk_by (by rfl)) (hg := fun _ _ _ _ _ => (gset 8 nd)) (ht := (fun _ _ _ _ _ => pts_one (pt_cmpR (eqDK K hr.units) (pe_lc (own := [("gap", 9)]) (hc := rfl) (hN := nd) (hi := (pi_listK K (pv 3))) (ok := blkOk_by (by rfl)) (hg := fun _ _ _ _ _ => (gset 9 nd)) (ht := (fun _ _ _ _ _ => pts_one (pt_chain op_le op_lt (pe_ix (ix_tupK K) (pv 8) pe_int (fun _ _ => rfl)) (pv 9) (pe_ix (ix_tupK K) (pv 8) pe_int (fun _ _ => rfl))))) (he := fun _ _ _ _ _ => (pv 9))) (pe_lst pa_nil) (nomark _)))) (he := fun _ _ _ _ _ => (pv 8)))
      (pss_cons (ps_par (i := 4) (j := 5) (by rfl) nd rfl rfl (by decide) rfl rfl (pa_cons (pe_callB (reprK K hG hr.units) (by rfl) T.m_repr (by decide +kernel) (pa_cons (pv 2) pa_nil)) (pa_cons (pe_callG (ok_law_blocks T) hG (hr.mono (by decide)) (by rfl) T.law_blocks_g T.law_blocks_F.kp T.law_blocks_b .nil pass0 (pa_cons (pv 1) (pa_cons (pv 2) pa_nil))) pa_nil)) (by rfl))
      (pss_cons (sset 6 nd (pe_callG (ok_blocks T) hG (hr.mono (by decide)) (by rfl) T.blocks_g T.blocks_F.kp T.blocks_b .nil pass0 (pa_cons (pv 1) (pa_cons (pv 2) pa_nil))))
      (pss_cons (ps_if (pt_cmpR op_ne (pe_callB (reprK K hG hr.units) (by rfl) T.m_repr (by decide +kernel) (pa_cons (pe_lst (pa_cons (pv 6) (pa_cons (pe_callKG0 (ok_blocks T) hG (hr.mono (by decide)) (by rfl) T.blocks_g T.blocks_F.kp T.k_blocks_commands_size pass0 (pk_cons (pv 2) (pk_cons (pv 1) pk_nil))) pa_nil))) pa_nil)) (pe_callB (reprK K hG hr.units) (by rfl) T.m_repr (by decide +kernel) (pa_cons (pe_lst (pa_cons (pv 5) (pa_cons (pv 5) pa_nil))) pa_nil)) (nomark _))
        (pss_one (ps_ret pe_bl))
        pss_nil)
      (pss_cons (ps_expr (pe_bmK K PySem.F.plainAttrs_list PySem.F.slot_list_append PySem.F.type_list_append mt_append (pv 6) (pa_cons (pe_tup (pa_cons pe_int (pa_cons pe_int pa_nil))) pa_nil)))
      (pss_one (ps_ret (pe_and (pe_cmpR (eqDK K hr.units) (pe_callG (ok_blocks T) hG (hr.mono (by decide)) (by rfl) T.blocks_g T.blocks_F.kp T.blocks_b .nil pass0 (pa_cons (pv 1) (pa_cons (pv 2) pa_nil))) (pv 5) (nomark _)) (pe_one (pe_cmpR op_eq (pe_callB (reprK K hG hr.units) (by rfl) T.m_repr (by decide +kernel) (pa_cons (pv 2) pa_nil)) (pv 4) (nomark _)))))))))))))), ?_⟩
  fail "ww"
  refine new_ fun l0 H1 n0 s1 h0 => ?_
  fail "ww"
  have hR1 : Pol H1 r m := by fail "kp"
  have h0r : l0 ≠ r := by fail "kpn"
  refine ⟨r, 2, m, rfl, hR1, by omega, by decide, by decide, fun H2 d2 hd20 hd21 s2 hR2 => ?_⟩
  obtain ⟨w8, hat, hw8⟩ : ∃ w8 : Nat, atI [V.int 8, V.int 60] d2 = some (.int w8) ∧ 1 ≤ w8 ∧ w8 ≤ 60 := by
    have : d2 = 0 ∨ d2 = 1 := by omega
    rcases this with e | e <;> subst e
    · exact ⟨8, rfl, by decide, by decide⟩
    · exact ⟨60, rfl, by decide, by decide⟩
  refine r_ixL (sq (s2 _ _ h0r h0)) hat ?_
  fail "ww"
  refine ⟨r, _, _, rfl, hR2, by omega, by omega, by omega, fun H3 e hd30 hd31 s3 hR3 => ?_⟩
  obtain ⟨e, rfl⟩ := Int.eq_ofNat_of_zero_le hd30
  fail "ww"
  rw [show (1 : Int) + (e : Int) = ((1 + e : Nat) : Int) by omega]
  obtain ⟨wide, hwide⟩ : ∃ w, 1 + e = w := ⟨_, rfl⟩
  rw [hwide]
  have hw1 : 1 ≤ wide := by omega
  have hw2 : wide ≤ 60 := by omega
  have x3 : Sx r H H3 := by fail "kp"
  clear hat h0 h0r n0 s1 s2 s3 hR hR1 hR2
  refine new_ fun l4 H4 n4 s4 h4 => ?_
  fail "ww"
  have hR4 : Pol H4 r (m + 1 + 1) := by fail "kp"
  have h4r : l4 ≠ r := by fail "kpn"
  refine ⟨r, 3, _, rfl, hR4, by omega, by decide, by decide, fun H5 d5 hd50 hd51 s5 hR5 => ?_⟩
  obtain ⟨mo, hat, hmo⟩ : ∃ mo : Nat, atI [V.int 4, V.int 12, V.int 200] d5 = some (.int mo) ∧ mo ≤ 200 := by
    have : d5 = 0 ∨ d5 = 1 ∨ d5 = 2 := by omega
    rcases this with e | e | e <;> subst e
    · exact ⟨4, rfl, by decide⟩
    · exact ⟨12, rfl, by decide⟩
    · exact ⟨200, rfl, by decide⟩
  refine r_ixL (sq (s5 _ _ h4r h4)) hat ?_
  fail "ww"
  refine ⟨r, wide, mo, _, rfl, hR5, hw1, by omega, by omega, by omega, fun H6 pa ts cs s6 na hR6 hA hC hF hl => ?_⟩
  fail "ww"
  have hpr : pa ≠ r := hR5.ne na
  have x6 : Sx r H H6 := by fail "kp"
  clear hat h4 h4r n4 s4 s5 s6 na hR3 hR4 hR5 x3
  refine ⟨r, 6, _, rfl, hR6, by omega, by decide, by decide, fun H7 d7 hd70 hd71 s7 hR7 => ?_⟩
  obtain ⟨k7, rfl⟩ := Int.eq_ofNat_of_zero_le hd70
  have hA7 : H7 pa = some (.lst (ts.map V.ref)) := s7 _ _ hpr hA
  have hC7 : Cm H7 ts cs := by fail "kp"
  have x7 : Sx r H H7 := by fail "kp"
  clear hA hC s7 hR6 x6
  fail "ww"
  refine ⟨by omega, by omega, fun D nD => ?_⟩
  have hDr : D ≠ r := by fail "kpn"
  refine lc_it walk_range (fun i Hi => ∃ gs : List Int, gs.length = i ∧ Hi D = some (.lst (gs.map V.int)) ∧ Sx r H7 Hi ∧ Pol Hi r (m + 3000 + i)) ⟨[], rfl, upd_same, Sx.new nD, (hR7.other hDr).le (by omega)⟩ (fun _ _ _ _ => trivial) (fun i x Hi Hi' hi p y => ?_) (fun H8 p => ?_)
  · obtain ⟨rfl, rfl⟩ := y
    obtain ⟨gs, hgl, hD, si, hRi⟩ := p
    fail "ww"
    refine ⟨rfl, ?_⟩
    fail "ww"
    refine ⟨r, _, _, rfl, hRi, by omega, by omega, by omega, fun H9 d hd0 hd1 s9 hR9 => ?_⟩
    refine ⟨_, s9 _ _ hDr hD, by rw [List.length_map]; exact size_lt (by omega), gs ++ [d], by rw [List.length_append, hgl]; rfl, by rw [upd_same]; simp, (si.trans s9).old nD, (hR9.other hDr).le (by omega)⟩
  · obtain ⟨gs, hgl, hD, s8, hR8⟩ := p
    rw [Int.toNat_natCast] at hgl
    replace hR8 : Pol H8 r (m + 4000) := hR8.le (by omega)
    have hA8 : H8 pa = some (.lst (ts.map V.ref)) := by fail "kp"
    have hC8 : Cm H8 ts cs := by fail "kp"
    have x8 : Sx r H H8 := by fail "kp"
    clear hA7 hC7 s8 hR7 nD x7
    fail "ww"
    intro D2 nD2
    refine lc_it (walk_list (xs := ts.map V.ref)) (fun i Hi => ∃ (us : List Addr) (ds : List Cmd), us.length ≤ i ∧ Hi D2 = some (.lst (us.map V.ref)) ∧ Cm Hi us ds ∧ Fits wide ds ∧ Same H8 Hi) ⟨[], [], Nat.le_refl _, upd_same, Cm.nil, (fun c hc => by cases hc), same_new nD2⟩ (fun i Hi _ p => ?_) (fun i x Hi Hi' hi p y => ?_) (fun H9 p => ?_)
    · obtain ⟨_, _, _, _, _, _, si⟩ := p; fail "kp"
    · obtain ⟨rfl, ey⟩ := y
      obtain ⟨us, ds, hul, hDi, hU, hFd, si⟩ := p
      have hi' : i < cs.length := by rw [← hC8.len]; simpa using hi
      obtain ⟨t0, et, ht⟩ := hC8.idx hi'
      rw [List.getElem?_map, et] at ey
      cases ey
      have hc := hF cs[i] (List.getElem_mem hi')
      generalize cs[i] = c at ht hc
      fail "ww"
      refine ⟨rfl, ?_⟩
      fail "ww"
      intro D3 nD3
      refine lc_it (walk_list (xs := gs.map V.int)) (fun j Hj => ∃ hs : List Int, hs.length ≤ j ∧ Hj D3 = some (.lst (hs.map V.int)) ∧ Same Hi' Hj) ⟨[], Nat.le_refl _, upd_same, same_new nD3⟩ (fun j Hj _ p => ?_) (fun j x Hj Hj' hj p y => ?_) (fun H10 p => ?_)
      · obtain ⟨_, _, _, sj⟩ := p; fail "kp"
      · obtain ⟨rfl, ey⟩ := y
        obtain ⟨hs, hhl, hDj, sj⟩ := p
        have hj' : j < gs.length := by simpa using hj
        rw [List.getElem?_map, List.getElem?_eq_getElem hj'] at ey
        cases ey
        fail "ww"
        refine ⟨rfl, ?_⟩
        have htj : Hj' t0 = some (.tup [.int (c.1 : Nat), .int (c.2 : Nat)]) := by fail "kp"
        fail "ww"
        refine r_ixT (sqT htj) rfl ?_
        fail "ww"
        refine r_dec (fun g1 => ?_) (fun g1 => ?_)
        · fail "ww"
          refine r_ixT (sqT htj) rfl ?_
          fail "ww"
          refine r_dec (fun g2 => ?_) (fun g2 => ?_)
          · fail "ww"
            refine ⟨_, hDj, by rw [List.length_map]; exact size_lt (by omega), hs ++ [gs[j]], by rw [List.length_append]; show _ + 1 ≤ _; omega, by rw [upd_same]; simp, same_old sj nD3⟩
          · exact ⟨hs, by omega, hDj, sj⟩
        · fail "ww"
          exact ⟨hs, by omega, hDj, sj⟩
      · obtain ⟨hs, hhl, hDj, sj⟩ := p
        fail "ww"
        refine new_ fun e4 H11 n4 s4 h4 => ?_
        refine r_eqL (ns := hs) (ms := []) (by fail "kp") (sq h4) ?_
        have h11 : Same Hi' H11 := by fail "kp"
        fail "ww"
        refine r_dec (fun g => ?_) (fun g => ?_)
        · fail "ww"
          refine ⟨_, h11 _ _ hDi, by rw [List.length_map]; exact size_lt (by omega), us ++ [t0], ds ++ [c], by rw [List.length_append]; show _ + 1 ≤ _; omega, by rw [upd_same]; simp, ?_, ?_, same_old (si.trans h11) nD2⟩
          · exact ((hU.same h11).snoc (h11 _ _ (si _ _ ht))).put (h11 _ _ hDi)
          · intro d hd
            rcases List.mem_append.mp hd with z | z
            · exact hFd d z
            · rw [List.mem_singleton.mp z]; exact hc
        · exact ⟨us, ds, by omega, h11 _ _ hDi, hU.same h11, hFd, si.trans h11⟩
    · obtain ⟨us, ds, hul, hA, hC, hF, s9⟩ := p
      have hR9 : Pol H9 r (m + 4000) := by fail "kp"
      have hdl : ds.length ≤ 200 := by rw [← hC.len]; rw [List.length_map, hC8.len] at hul; omega
      have x9 : Sx r H H9 := by fail "kp"
      clear hA8 hC8 s9 hR8 nD2 hul x8
      clear hl
      obtain ⟨wide, rfl⟩ : ∃ k, wide = k + 1 := ⟨wide - 1, by omega⟩
      have hbl : (blkM (wide + 1) ds).length ≤ 1000 := by rw [← blkP_end hF]; have := blkP_len ds wide; omega
      have hbc : ∀ c ∈ blkM (wide + 1) ds, c.1 ≤ wide + 1 ∧ c.2 ≤ wide + 1 := by rw [← blkP_end hF]; exact blk_le (Nat.le_refl _)
      generalize hbM : blkM (wide + 1) ds = bl at hbl hbc
      fail "ww"
      refine n_reprC (n := wide + 1) (by fail "kp") (by fail "kp") hF (by omega) (by omega) ?_
      fail "ww"
      refine ⟨wide + 1, D2, us, ds, rfl, hw1, by omega, by fail "kp", by fail "kp", hF, by omega, fun H10 p10 u10 s10 n10 h10 c10 => ?_⟩
      rw [hbM] at c10
      fail "ww"
      refine ⟨wide + 1, D2, us, ds, rfl, hw1, by omega, by fail "kp", by fail "kp", hF, fun H11 p11 u11 s11 n11 h11 c11 => ?_⟩
      rw [hbM] at c11
      fail "ww"
      refine ⟨wide + 1, D2, us, ds, rfl, hw1, by omega, by fail "kp", by fail "kp", hF, fun H12 p12 u12 s12 n12 h12 c12 => ?_⟩
      rw [hbM] at c12
      fail "ww"
      refine new_ fun p13 H13 n13 s13 h13 => ?_
      fail "ww"
      refine n_repr2C (n := wide + 1) h13 (by fail "kp") (cs := bl) (by fail "kp") (by fail "kp") (ds := bl) (by fail "kp") hbc hbc (by omega) (by omega) (by omega) ?_
      fail "ww"
      refine new_ fun p14 H14 n14 s14 h14 => ?_
      fail "ww"
      refine n_repr2C (n := wide + 1) h14 (by fail "kp") (cs := bl) (by fail "kp") (by fail "kp") (ds := bl) (by fail "kp") hbc hbc (by omega) (by omega) (by omega) ?_
      fail "ww"
      refine r_itNF rfl ?_
      fail "ww"
      refine new_ fun p15 H15 n15 s15 h15 => ?_
      have h11' : H15 p11 = some (.lst (u11.map V.ref)) := by fail "kp"
      have n11' : H10 p11 = none := n11
      have s1015 : Same H10 H15 := by fail "kp"
      fail "ww"
      refine r_append h11' (by rw [List.length_map, c11.len]; exact size_lt (by omega)) ?_
      have s16 : Same H10 (upd H15 p11 (.lst (u11.map V.ref ++ [.ref p15]))) := same_old s1015 n11'
      clear s11 s12 s13 s14 s15 s1015
      generalize upd H15 p11 (.lst (u11.map V.ref ++ [.ref p15])) = H16 at s16 ⊢
      fail "ww"
      refine ⟨wide + 1, D2, us, ds, rfl, hw1, by omega, by fail "kp", by fail "kp", hF, fun H17 p17 u17 s17 n17 h17 c17 => ?_⟩
      rw [hbM] at c17
      fail "ww"
      refine r_eqCs (cs := bl) (ds := bl) (us := u10) (by fail "kp") c17 (by fail "kp") (by fail "kp") ?_
      rw [decide_eq_true rfl]
      fail "ww"
      refine n_reprC (n := wide + 1) (by fail "kp") (by fail "kp") hF (by omega) (by omega) ?_
      fail "ww"
      rw [decide_eq_true rfl]
      exact q _ (by fail "kp") ((by fail "kp" : Pol H17 r (m + 4000)).le (by omega))
def sp_law (K : PySem.W.Frag) : Sp := fun vs H Q _ => ∃ (a : Addr) (ns : List Int), vs = [.ref a] ∧ SqL K H a (ns.map V.int) ∧ ns.length ≤ 63 ∧ ∀ H', Q (.bl true) H'
theorem ok_law (T : Txt K mg) : FnG P w K mg base CX0 5 T.law_a T.law_d ["script"] (sp_law K) := by
  refine okG T.law_F sc_law (fun vs H Q E h => ?_) (fun cdv A ou t H vs Q E hG hr h => ?_)
  · obtain ⟨_, _, rfl, _⟩ := h; rfl
  have nd := sc_law.nd
  obtain ⟨a, ns, rfl, hS, hlen, q⟩ := h
  refine ⟨_, (pss_cons (ps_for PassesOwn.never rfl (pi_range1 (by rfl) T.m_range (pa_cons (pe_callB (call_max2 rfl) (by rfl) T.m_max (by decide +kernel) (pa_cons pe_int (pa_cons (pe_callB (call_min2 rfl) (by rfl) T.m_min (by decide +kernel) (pa_cons pe_int (pa_cons (pe_callB (lenK K) (by rfl) T.m_len PySem.boot_len (pa_cons (pv 0) pa_nil)) pa_nil))) pa_nil))) pa_nil)) (gset 1 nd)
        (pss_cons (sset 2 nd (pe_callG (ok_law_pool T) hG (hr.mono (by decide)) (by rfl) T.law_pool_g T.law_pool_F.kp T.law_pool_b .nil pass0 (pa_cons (pv 0) (pa_cons (pv 1) pa_nil))))
      (pss_one (ps_for PassesOwn.never rfl (pi_range1 (by rfl) T.m_range (pa_cons pe_int pa_nil)) (gset 3 nd)
        (pss_one (ps_if (pt_not (pt_val (pe_callG (ok_law_right T) hG (hr.mono (by decide)) (by rfl) T.law_right_g T.law_right_F.kp T.law_right_b .nil pass0 (pa_cons (pv 2) pa_nil))))
        (pss_one (ps_ret pe_bl))
        pss_nil))))))
      (pss_one (ps_ret (pe_and (pe_cmpR (eqDK K hr.units) (pe_callG (ok_blocks T) hG (hr.mono (by decide)) (by rfl) T.blocks_g T.blocks_F.kp T.blocks_b .nil pass0 (pa_cons pe_int (pa_cons (pe_lst (pa_cons (pe_tup (pa_cons pe_int (pa_cons pe_int pa_nil))) (pa_cons (pe_tup (pa_cons pe_int (pa_cons pe_int pa_nil))) (pa_cons (pe_tup (pa_cons pe_int (pa_cons pe_int pa_nil))) pa_nil)))) pa_nil))) (pe_lst (pa_cons (pe_tup (pa_cons pe_int (pa_cons pe_int pa_nil))) (pa_cons (pe_tup (pa_cons pe_int (pa_cons pe_int pa_nil))) (pa_cons (pe_tup (pa_cons pe_int (pa_cons pe_int pa_nil))) pa_nil)))) (nomark _)) (pe_one (pe_cmpR (eqDK K hr.units) (pe_callG (ok_blocks T) hG (hr.mono (by decide)) (by rfl) T.blocks_g T.blocks_F.kp T.blocks_b .nil pass0 (pa_cons pe_int (pa_cons (pe_lst pa_nil) pa_nil))) (pe_lst (pa_cons (pe_tup (pa_cons pe_int (pa_cons pe_int pa_nil))) (pa_cons (pe_tup (pa_cons pe_int (pa_cons pe_int pa_nil))) (pa_cons (pe_tup (pa_cons pe_int (pa_cons pe_int pa_nil))) pa_nil)))) (nomark _))))))), ?_⟩
  fail "ww"
  rw [List.length_map]
  obtain ⟨N, hN, hN2⟩ : ∃ N : Nat, (if (if ((ns.length : Nat) : Int) < 8 then ((ns.length : Nat) : Int) else 8) > 1 then (if ((ns.length : Nat) : Int) < 8 then ((ns.length : Nat) : Int) else 8) else 1) = (N : Int) ∧ N ≤ 8 := by
    refine ⟨(if (if ((ns.length : Nat) : Int) < 8 then ((ns.length : Nat) : Int) else 8) > 1 then (if ((ns.length : Nat) : Int) < 8 then ((ns.length : Nat) : Int) else 8) else 1).toNat, ?_, ?_⟩ <;> split <;> split <;> omega
  rw [hN]
  refine ⟨by omega, by omega, ?_⟩
  refine forF walk_range (fun i σ' H' => ∃ (y1 y2 y3 : Option V) (_u : Unit), σ' = [some (.ref a), y1, y2, y3] ∧ Same H H')
    ⟨none, none, none, (), rfl, Same.refl _⟩ (fun _ _ _ _ _ => trivial) (fun i σ' H' hi p => ?_) (fun σ' H' p => ?_)
  · obtain ⟨y1, y2, y3, _, rfl, s⟩ := p
    fail "ww"
    have hi8 : i < 8 := by omega
    rw [show (0 : Int) + (i : Int) = ((i : Nat) : Int) by omega]
    refine ⟨a, ns, i, rfl, by fail "kp", by omega, fun H1 r s1 nr hR => ?_⟩
    have nr0 : H r = none := by fail "kpz"
    fail "ww"
    refine ⟨by omega, by omega, ?_⟩
    have s01 : Same H H1 := by fail "kp"
    refine forF walk_range (fun j σ' H' => ∃ (y3 : Option V) (_u : Unit), σ' = [some (.ref a), some (.int (i : Int)), some (.ref r), y3] ∧ Pol H' r (10000 * j) ∧ Sx r H H')
      ⟨y3, (), rfl, hR, sx_of s01⟩ (fun _ _ _ _ _ => trivial) (fun j σ' H' hj p => ?_) (fun σ' H' p => ?_)
    · obtain ⟨y3, _, rfl, hRj, sj⟩ := p
      have hj6 : j < 6 := hj
      fail "ww"
      refine ⟨r, _, rfl, hRj, by omega, fun H3 s3 hR3 => ?_⟩
      fail "ww"
      exact ⟨_, (), rfl, hR3.le (by omega), sj.trans s3⟩
    · obtain ⟨y3, _, rfl, hRj, sj⟩ := p
      fail "ww"
      refine ⟨_, _, _, (), rfl, fun b o e => ?_⟩
      exact sj b o (ne_of_none e nr0) e
  · obtain ⟨y1, y2, y3, _, rfl, s⟩ := p
    have hF : Fits 5 [((1, 2) : Cmd), (2, 3), (4, 4)] := by intro c hc; simp at hc; rcases hc with e | e | e <;> subst e <;> decide
    fail "ww"
    refine new_ fun q1 G1 m1 t1 g1 => ?_
    fail "ww"
    refine new_ fun q2 G2 m2 t2 g2 => ?_
    fail "ww"
    refine new_ fun q3 G3 m3 t3 g3 => ?_
    fail "ww"
    refine new_ fun q4 G4 m4 t4 g4 => ?_
    have e1 : G4 q1 = some (.tup [.int 1, .int 2]) := by fail "kp"
    have e2 : G4 q2 = some (.tup [.int 2, .int 3]) := by fail "kp"
    have e3 : G4 q3 = some (.tup [.int 4, .int 4]) := by fail "kp"
    have hCm : Cm G4 [q1, q2, q3] [((1, 2) : Cmd), (2, 3), (4, 4)] := ((Cm.nil.snoc (c := (1, 2)) e1).snoc (c := (2, 3)) e2).snoc (c := (4, 4)) e3
    fail "ww"
    refine ⟨5, q4, [q1, q2, q3], [(1, 2), (2, 3), (4, 4)], rfl, by omega, by omega, sq g4, hCm, hF, fun G5 q5 u5 t5 m5 g5 c5 => ?_⟩
    fail "ww"
    refine new_ fun q6 G6 m6 t6 g6 => ?_
    fail "ww"
    refine new_ fun q7 G7 m7 t7 g7 => ?_
    fail "ww"
    refine new_ fun q8 G8 m8 t8 g8 => ?_
    fail "ww"
    refine new_ fun q9 G9 m9 t9 g9 => ?_
    have f1 : G9 q6 = some (.tup [.int 1, .int 3]) := by fail "kp"
    have f2 : G9 q7 = some (.tup [.int 4, .int 4]) := by fail "kp"
    have f3 : G9 q8 = some (.tup [.int 5, .int 5]) := by fail "kp"
    have hCn : Cm G9 [q6, q7, q8] [((1, 3) : Cmd), (4, 4), (5, 5)] := ((Cm.nil.snoc (c := (1, 3)) f1).snoc (c := (4, 4)) f2).snoc (c := (5, 5)) f3
    refine r_eqCs (us := [q6, q7, q8]) (by fail "kp") (by fail "kp" : Cm G9 u5 _) (sq g9) hCn ?_
    rw [decide_eq_true (by decide)]
    fail "ww"
    refine new_ fun p1 J1 n1 s1 h1 => ?_
    fail "ww"
    refine ⟨3, p1, [], [], rfl, by omega, by omega, sq h1, Cm.nil, (fun c hc => by cases hc), fun J2 p2 v2 s2 n2 h2 c2 => ?_⟩
    fail "ww"
    refine new_ fun p3 J3 n3 s3 h3 => ?_
    fail "ww"
    refine new_ fun p4 J4 n4 s4 h4 => ?_
    fail "ww"
    refine new_ fun p5 J5 n5 s5 h5 => ?_
    fail "ww"
    refine new_ fun p6 J6 n6 s6 h6 => ?_
    have f1 : J6 p3 = some (.tup [.int 1, .int 1]) := by fail "kp"
    have f2 : J6 p4 = some (.tup [.int 2, .int 2]) := by fail "kp"
    have f3 : J6 p5 = some (.tup [.int 3, .int 3]) := by fail "kp"
    have hCo : Cm J6 [p3, p4, p5] [((1, 1) : Cmd), (2, 2), (3, 3)] := ((Cm.nil.snoc (c := (1, 1)) f1).snoc (c := (2, 2)) f2).snoc (c := (3, 3)) f3
    refine r_eqCs (us := [p3, p4, p5]) (by fail "kp") (by fail "kp" : Cm J6 v2 _) (sq h6) hCo ?_
    rw [decide_eq_true (by decide)]
    exact q _
end
theorem all_mk {w : World} {K : PySem.W.Frag} {h : Heap} {mg : Str → Option Value} {l : PySem.W.OpenLaw} {fa f_check_size f_check_script f_linked_blocks f_law_pool f_law_draw f_law_blocks f_check_sized_script f_law_steps f_blocks f_law_right f_law : Addr} (X : K.In h) (G : h.Ns mainGlobals mg) (hfa : mg "law" = some (.ref fa))
    {od0 an0 od1 an1 od2 an2 od3 an3 od4 an4 od5 an5 od6 an6 od7 an7 od8 an8 od9 an9 od10 an10 : Option Addr} {sl0 sl1 sl2 sl3 sl4 sl5 sl6 sl7 sl8 sl9 sl10 : Array (Option Value)} {oc0 kV0 dc0 pm0 cd0 ct0 oc1 kV1 dc1 pm1 cd1 ct1 oc2 kV2 dc2 pm2 cd2 ct2 oc3 kV3 dc3 pm3 cd3 ct3 oc4 kV4 dc4 pm4 cd4 ct4 oc5 kV5 dc5 pm5 cd5 ct5 oc6 kV6 dc6 pm6 cd6 ct6 oc7 kV7 dc7 pm7 cd7 ct7 oc8 kV8 dc8 pm8 cd8 ct8 oc9 kV9 dc9 pm9 cd9 ct9 oc10 kV10 dc10 pm10 cd10 ct10 : Value}
    (a0 : PySem.W.nsIn K mainGlobals "check_size" = some (some (.ref f_check_size))) (l0 : K.lookup f_check_size = some ⟨oc0, od0, .func (PySem.W.fnOf "check_size" "check_size" (defArgs s_check_size) (defBody s_check_size) (defScope s_check_size) .none kV0 dc0 pm0 an0 cd0 ct0), sl0⟩) (c0 : PySem.W.codeIn K cd0 "check_size" = true) (k0 : PySem.W.keepIn K (.ref f_check_size) = true)
    (a1 : PySem.W.nsIn K mainGlobals "check_script" = some (some (.ref f_check_script))) (l1 : K.lookup f_check_script = some ⟨oc1, od1, .func (PySem.W.fnOf "check_script" "check_script" (defArgs s_check_script) (defBody s_check_script) (defScope s_check_script) .none kV1 dc1 pm1 an1 cd1 ct1), sl1⟩) (c1 : PySem.W.codeIn K cd1 "check_script" = true) (k1 : PySem.W.keepIn K (.ref f_check_script) = true)
    (a2 : PySem.W.nsIn K mainGlobals "linked_blocks" = some (some (.ref f_linked_blocks))) (l2 : K.lookup f_linked_blocks = some ⟨oc2, od2, .func (PySem.W.fnOf "linked_blocks" "linked_blocks" (defArgs s_linked_blocks) (defBody s_linked_blocks) (defScope s_linked_blocks) .none kV2 dc2 pm2 an2 cd2 ct2), sl2⟩) (c2 : PySem.W.codeIn K cd2 "linked_blocks" = true) (k2 : PySem.W.keepIn K (.ref f_linked_blocks) = true)
    (a3 : PySem.W.nsIn K mainGlobals "_law_pool" = some (some (.ref f_law_pool))) (l3 : K.lookup f_law_pool = some ⟨oc3, od3, .func (PySem.W.fnOf "_law_pool" "_law_pool" (defArgs s_law_pool) (defBody s_law_pool) (defScope s_law_pool) .none kV3 dc3 pm3 an3 cd3 ct3), sl3⟩) (c3 : PySem.W.codeIn K cd3 "_law_pool" = true) (k3 : PySem.W.keepIn K (.ref f_law_pool) = true)
    (a4 : PySem.W.nsIn K mainGlobals "_law_draw" = some (some (.ref f_law_draw))) (l4 : K.lookup f_law_draw = some ⟨oc4, od4, .func (PySem.W.fnOf "_law_draw" "_law_draw" (defArgs s_law_draw) (defBody s_law_draw) (defScope s_law_draw) .none kV4 dc4 pm4 an4 cd4 ct4), sl4⟩) (c4 : PySem.W.codeIn K cd4 "_law_draw" = true) (k4 : PySem.W.keepIn K (.ref f_law_draw) = true)
    (a5 : PySem.W.nsIn K mainGlobals "_law_blocks" = some (some (.ref f_law_blocks))) (l5 : K.lookup f_law_blocks = some ⟨oc5, od5, .func (PySem.W.fnOf "_law_blocks" "_law_blocks" (defArgs s_law_blocks) (defBody s_law_blocks) (defScope s_law_blocks) .none kV5 dc5 pm5 an5 cd5 ct5), sl5⟩) (c5 : PySem.W.codeIn K cd5 "_law_blocks" = true) (k5 : PySem.W.keepIn K (.ref f_law_blocks) = true)
    (a6 : PySem.W.nsIn K mainGlobals "check_sized_script" = some (some (.ref f_check_sized_script))) (l6 : K.lookup f_check_sized_script = some ⟨oc6, od6, .func (PySem.W.fnOf "check_sized_script" "check_sized_script" (defArgs s_check_sized_script) (defBody s_check_sized_script) (defScope s_check_sized_script) .none kV6 dc6 pm6 an6 cd6 ct6), sl6⟩) (c6 : PySem.W.codeIn K cd6 "check_sized_script" = true) (k6 : PySem.W.keepIn K (.ref f_check_sized_script) = true)
    (a7 : PySem.W.nsIn K mainGlobals "_law_steps" = some (some (.ref f_law_steps))) (l7 : K.lookup f_law_steps = some ⟨oc7, od7, .func (PySem.W.fnOf "_law_steps" "_law_steps" (defArgs s_law_steps) (defBody s_law_steps) (defScope s_law_steps) .none kV7 dc7 pm7 an7 cd7 ct7), sl7⟩) (c7 : PySem.W.codeIn K cd7 "_law_steps" = true) (k7 : PySem.W.keepIn K (.ref f_law_steps) = true)
    (a8 : PySem.W.nsIn K mainGlobals "blocks" = some (some (.ref f_blocks))) (l8 : K.lookup f_blocks = some ⟨oc8, od8, .func (PySem.W.fnOf "blocks" "blocks" (defArgs s_blocks) (defBody s_blocks) (defScope s_blocks) .none kV8 dc8 pm8 an8 cd8 ct8), sl8⟩) (c8 : PySem.W.codeIn K cd8 "blocks" = true) (k8 : PySem.W.keepIn K (.ref f_blocks) = true)
    (a9 : PySem.W.nsIn K mainGlobals "_law_right" = some (some (.ref f_law_right))) (l9 : K.lookup f_law_right = some ⟨oc9, od9, .func (PySem.W.fnOf "_law_right" "_law_right" (defArgs s_law_right) (defBody s_law_right) (defScope s_law_right) .none kV9 dc9 pm9 an9 cd9 ct9), sl9⟩) (c9 : PySem.W.codeIn K cd9 "_law_right" = true) (k9 : PySem.W.keepIn K (.ref f_law_right) = true)
    (a10 : PySem.W.nsIn K mainGlobals "law" = some (some (.ref f_law))) (l10 : K.lookup f_law = some ⟨oc10, od10, .func (PySem.W.fnOf "law" "law" (defArgs s_law) (defBody s_law) (defScope s_law) .none kV10 dc10 pm10 an10 cd10 ct10), sl10⟩) (c10 : PySem.W.codeIn K cd10 "law" = true) (k10 : PySem.W.keepIn K (.ref f_law) = true)
    (z_abs : PySem.W.nsIn K mainGlobals "abs" = some none) (z_enumerate : PySem.W.nsIn K mainGlobals "enumerate" = some none) (z_len : PySem.W.nsIn K mainGlobals "len" = some none) (z_max : PySem.W.nsIn K mainGlobals "max" = some none) (z_min : PySem.W.nsIn K mainGlobals "min" = some none) (z_range : PySem.W.nsIn K mainGlobals "range" = some none) (z_repr : PySem.W.nsIn K mainGlobals "repr" = some none) :
    ∃ fd : FuncData, (∀ (s : Shared) (v : Value), BindsTo s fd ⟨[v], []⟩ [("script", v)]) ∧ ∀ base : Heap, K.In base → base.Ns mainGlobals mg → FnG l.prog w K mg base CX0 5 fa fd ["script"] (sp_law K) := by
  have e := hfa.symm.trans (PySem.W.mg_of X G a10)
  cases e
  have F0 := fun_mk (st := s_check_size) l0 c0 k0
  have b0 := F0.binds (ps := ["size"]) fun _ _ _ _ _ _ us hl => match us, hl with | [_], _ => rfl
  have F1 := fun_mk (st := s_check_script) l1 c1 k1
  have b1 := F1.binds (ps := ["size", "commands"]) fun _ _ _ _ _ _ us hl => match us, hl with | [_, _], _ => rfl
  have F2 := fun_mk (st := s_linked_blocks) l2 c2 k2
  have b2 := F2.binds (ps := ["size", "commands"]) fun _ _ _ _ _ _ us hl => match us, hl with | [_, _], _ => rfl
  have F3 := fun_mk (st := s_law_pool) l3 c3 k3
  have b3 := F3.binds (ps := ["script", "at"]) fun _ _ _ _ _ _ us hl => match us, hl with | [_, _], _ => rfl
  have F4 := fun_mk (st := s_law_draw) l4 c4 k4
  have b4 := F4.binds (ps := ["pool", "many"]) fun _ _ _ _ _ _ us hl => match us, hl with | [_, _], _ => rfl
  have F5 := fun_mk (st := s_law_blocks) l5 c5 k5
  have b5 := F5.binds (ps := ["wide", "steps_here"]) fun _ _ _ _ _ _ us hl => match us, hl with | [_, _], _ => rfl
  have F6 := fun_mk (st := s_check_sized_script) l6 c6 k6
  have b6 := F6.binds (ps := ["size", "commands"]) fun _ _ _ _ _ _ us hl => match us, hl with | [_, _], _ => rfl
  have F7 := fun_mk (st := s_law_steps) l7 c7 k7
  have b7 := F7.binds (ps := ["pool", "wide", "most"]) fun _ _ _ _ _ _ us hl => match us, hl with | [_, _, _], _ => rfl
  have F8 := fun_mk (st := s_blocks) l8 c8 k8
  have b8 := F8.binds (ps := ["size", "commands"]) fun _ _ _ _ _ _ us hl => match us, hl with | [_, _], _ => rfl
  have F9 := fun_mk (st := s_law_right) l9 c9 k9
  have b9 := F9.binds (ps := ["pool"]) fun _ _ _ _ _ _ us hl => match us, hl with | [_], _ => rfl
  have F10 := fun_mk (st := s_law) l10 c10 k10
  have b10 := F10.binds (ps := ["script"]) fun _ _ _ _ _ _ us hl => match us, hl with | [_], _ => rfl
  have kb_blocks_commands_size : KBinds K (PySem.W.fnOf "blocks" "blocks" (defArgs s_blocks) (defBody s_blocks) (defScope s_blocks) .none kV8 dc8 pm8 an8 cd8 ct8) ["size", "commands"] ["commands", "size"] (fun (us ws : List Value) => match us, ws with | [], [w0, w1] => [w1, w0] | _, _ => []) (fun (us ws : List V) => match us, ws with | [], [w0, w1] => [w1, w0] | _, _ => []) := by
    refine ⟨fun s us ws _ hl => ?_, fun {vs us zs ws} h1 h2 => ?_⟩
    · revert hl; (try dsimp only); split
      · intro _; exact .of_eq rfl
      · intro hl; cases hl
    · rcases h1 with _ | ⟨p1, _ | ⟨p2, _ | ⟨p3, h1⟩⟩⟩ <;> rcases h2 with _ | ⟨q1, _ | ⟨q2, _ | ⟨q3, h2⟩⟩⟩ <;> ((try dsimp only); repeat (first | exact .nil | refine .cons (by assumption) ?_))
  let T : Txt K mg := { check_size_a := f_check_size, check_size_d := _, check_size_F := F0, check_size_b := b0, check_size_g := PySem.W.mg_of X G a0, check_script_a := f_check_script, check_script_d := _, check_script_F := F1, check_script_b := b1, check_script_g := PySem.W.mg_of X G a1, linked_blocks_a := f_linked_blocks, linked_blocks_d := _, linked_blocks_F := F2, linked_blocks_b := b2, linked_blocks_g := PySem.W.mg_of X G a2, law_pool_a := f_law_pool, law_pool_d := _, law_pool_F := F3, law_pool_b := b3, law_pool_g := PySem.W.mg_of X G a3, law_draw_a := f_law_draw, law_draw_d := _, law_draw_F := F4, law_draw_b := b4, law_draw_g := PySem.W.mg_of X G a4, law_blocks_a := f_law_blocks, law_blocks_d := _, law_blocks_F := F5, law_blocks_b := b5, law_blocks_g := PySem.W.mg_of X G a5, check_sized_script_a := f_check_sized_script, check_sized_script_d := _, check_sized_script_F := F6, check_sized_script_b := b6, check_sized_script_g := PySem.W.mg_of X G a6, law_steps_a := f_law_steps, law_steps_d := _, law_steps_F := F7, law_steps_b := b7, law_steps_g := PySem.W.mg_of X G a7, blocks_a := f_blocks, blocks_d := _, blocks_F := F8, blocks_b := b8, blocks_g := PySem.W.mg_of X G a8, law_right_a := f_law_right, law_right_d := _, law_right_F := F9, law_right_b := b9, law_right_g := PySem.W.mg_of X G a9, law_a := fa, law_d := _, law_F := F10, law_b := b10, law_g := PySem.W.mg_of X G a10, k_blocks_commands_size := kb_blocks_commands_size, m_abs := PySem.W.mg_none_of X G z_abs, m_enumerate := PySem.W.mg_none_of X G z_enumerate, m_len := PySem.W.mg_none_of X G z_len, m_max := PySem.W.mg_none_of X G z_max, m_min := PySem.W.mg_none_of X G z_min, m_range := PySem.W.mg_none_of X G z_range, m_repr := PySem.W.mg_none_of X G z_repr }
  exact ⟨PySem.W.fnOf "law" "law" (defArgs s_law) (defBody s_law) (defScope s_law) .none kV10 dc10 pm10 an10 cd10 ct10, fun s v => .of_eq rfl, fun base _ _ => ok_law T⟩
end L32
open PySem PySem.W PyProof.Rows
set_option maxHeartbeats 0 in
theorem PySem.Challenge.cw_sortstretches_k32_blocks_of_scripts_holds : PySem.Challenge.rw_sortstretches_k32_blocks_of_scripts.Holds := by
  w_on; o_law; k_head; (case hw => w_witness2)
  k_fill
  refine Xk.walkG (l := PySem.Challenge.rw_sortstretches_k32_blocks_of_scripts) (m := 63) (n := 5) (x := "script") (CX := L2.CX0) (sp := L32.sp_law) rfl (by decide) rfl ⟨rfl, by decide, by decide⟩ (fun w h Y => PySem.W.kIn_of Y) ?F (fun K H a ns hl hO hS => ⟨a, ns, rfl, hS, hl, fun _ => rfl⟩) (fun _ _ _ _ h => h)
  case F =>
    intro w mg fa h KX G hmg
    refine' L32.all_mk KX G hmg ?a0 ?l0 ?c0 ?k0 ?a1 ?l1 ?c1 ?k1 ?a2 ?l2 ?c2 ?k2 ?a3 ?l3 ?c3 ?k3 ?a4 ?l4 ?c4 ?k4 ?a5 ?l5 ?c5 ?k5 ?a6 ?l6 ?c6 ?k6 ?a7 ?l7 ?c7 ?k7 ?a8 ?l8 ?c8 ?k8 ?a9 ?l9 ?c9 ?k9 ?a10 ?l10 ?c10 ?k10 ?z_abs ?z_enumerate ?z_len ?z_max ?z_min ?z_range ?z_repr
    (case a0 => k_is); (case l0 => k_is); (case c0 => k_is); (case k0 => k_is); (case a1 => k_is); (case l1 => k_is); (case c1 => k_is); (case k1 => k_is); (case a2 => k_is); (case l2 => k_is); (case c2 => k_is); (case k2 => k_is); (case a3 => k_is); (case l3 => k_is); (case c3 => k_is); (case k3 => k_is); (case a4 => k_is); (case l4 => k_is); (case c4 => k_is); (case k4 => k_is); (case a5 => k_is); (case l5 => k_is); (case c5 => k_is); (case k5 => k_is); (case a6 => k_is); (case l6 => k_is); (case c6 => k_is); (case k6 => k_is); (case a7 => k_is); (case l7 => k_is); (case c7 => k_is); (case k7 => k_is); (case a8 => k_is); (case l8 => k_is); (case c8 => k_is); (case k8 => k_is); (case a9 => k_is); (case l9 => k_is); (case c9 => k_is); (case k9 => k_is); (case a10 => k_is); (case l10 => k_is); (case c10 => k_is); (case k10 => k_is); (case z_abs => k_is); (case z_enumerate => k_is); (case z_len => k_is); (case z_max => k_is); (case z_min => k_is); (case z_range => k_is); (case z_repr => k_is)

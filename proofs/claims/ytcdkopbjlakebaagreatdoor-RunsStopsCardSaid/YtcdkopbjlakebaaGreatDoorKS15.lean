/- Texts put together, for a law: Tls. -/
import Derived.Great.BuildSlice
import Derived.Test.YtcdkopbjlakebaaGreatDoorKS2
import Derived.Test.YtcdkopbjlakebaaGreatDoorKS13
section
namespace Go.Proofs.YtcdkopbjlakebaaGreatDoor
open Go.RowKit Me
theorem run_store_box {P:Program} {w:World} {g:Nat} {old v:Value} {ty:TypeId} (hb:Blk w g [old]) (hi:(P.info? ty).map (·.size)=some 1) (h1:v.oneCell'=true):(storeVar ty ⟨g,0,none⟩ v).run P w=.ok () (w.setCell ⟨g,0,none⟩ v):=by
 obtain ⟨t,ht⟩:=hb
 rw[run_storeVar_one w g t ty old v ht hi h1,setCell_eq_setRow w g 0 #[old] t (0,0) v ht]
 rfl
theorem tl_append {P:Program} {w:World} {o:Oper} {rest:List Oper} {a:Act} {Q:Exit→Act→World→Prop} (s x:Operand) (t:TypeId) (hop:o.op=Op.call {callee:=Callee.builtin Builtin.append,args:=#[s,x],argTypes:=#[t,t]})
 (base:Nat) (e:TypeId) (i:TypeInfo) (z:Value) (size bytes:Nat) (ht:P.underlying t=some (.slice e)) (hi:P.info? e=some i) (hz:i.zero=some z)
 (hsize:i.size=size) (hby:i.bytes=bytes) (hzs:z.cells.size=size) (hsz:0<size)
 (A:Option Addr) (n cap:Nat) (xs:List Value) (hs:a.eval s=.slice A n cap) (hown:w.ownsRow base e size (.slice A n cap) n xs)
 (ad:Addr) (m c:Nat) (news:List Value) (hx:a.eval x=.slice (some ad) m c) (hl:news.length=m*size) (hnews:∀j u,news[j]?=some u→w.cell? (ad.add j)=some u) (h1:∀u∈news,u.oneCell'=true)
 (hm:0<m) (h63:n+m≤maxLen) (hbytes:(n+m)*bytes≤140737488355328) (hbase:base≤w.heap.size)
 (hK:∀v' w',w'.ownsRow base e size v' (n+m) (xs++news)→w.grownBy w' (Value.slice A n cap).ownBlock→(v'.ownBlock=(Value.slice A n cap).ownBlock∨v'.ownBlock=some w.heap.size)→Tl (Gw.seqTail P Q rest (a.put o.dst v') w')) :
 Tl (Gw.seqTail P Q (o::rest) a w):=by
 obtain ⟨v',w',hr,h2,h3,h5,-⟩:=run_append_both (P:=P) w base t o.type e i z size bytes ht hi hz hsize hby hzs hsz A n cap xs hown ad m c news hl hnews h1 hm h63 hbytes hbase
 refine ⟨?_⟩
 show Oper.wp P o a w _ _
 unfold Oper.wp execOp
 simp only[hop,resolve,invoke,builtin,Sem.run_bind,Sem.run_pure,Result.andThen_ok,List.map_toArray,List.map_cons,List.map_nil,hs,hx,hr]
 exact (hK _ _ h2 h3 h5).out
theorem tl_box {P:Program} {op:Oper} {rest:List Oper} {a:Act} {w:World} {Q:Exit→Act→World→Prop} (ty:TypeId) (x y:Operand) (ho:op.op=.store ty x y)
 (g:Nat) (old v:Value) (hx:a.eval x=.pointer (some ⟨g,0,none⟩)) (hy:a.eval y=v) (hb:Blk w g [old]) (hi:(P.info? ty).map (·.size)=some 1) (h1:v.oneCell'=true)
 (h:Tl (Gw.seqTail P Q rest (a.put op.dst undef) (w.setCell ⟨g,0,none⟩ v))):Tl (Gw.seqTail P Q (op::rest) a w):=by
 refine ⟨?_⟩
 show Oper.wp P op a w _ _
 unfold Oper.wp execOp
 simp only[ho,hx,hy,Instr.storeAt,Instr.sureAddr,Sem.run_bind,Sem.run_pure,Result.andThen_ok,run_store_box (P:=P) hb hi h1]
 exact h.out
end Go.Proofs.YtcdkopbjlakebaaGreatDoor
end

import Derived.Test.YtccbdmccfbjmeaaDoorG14
/- ReportBridge holds: of any ID, ports and counts, report.Bridge tells just the lines that the document asks. No conditions beyond the card's own. -/
set_option linter.unusedVariables false
namespace Go.Proofs.YtccbdmccfbjmeaaDoor
theorem reportBridge_holds : Rows.ReportBridgeCardSaid := reportBridgeLaw.card (fun id n m a c l X h1 h2 h3 h4 h5 => law_fun id n m a c l X h1 h2 h3 h4 h5)
end Go.Proofs.YtccbdmccfbjmeaaDoor

/- A rule, in plain words: its version, its flow, where it leads to. -/
namespace Rul

abbrev Ru := Int × Int × Int

end Rul

"""Food webs: who lives, who falls and with whom, told exactly."""

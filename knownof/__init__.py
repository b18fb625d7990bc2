"""What's known of one number: values, and reckoning with them. Use knownof.knowledge.answers."""
